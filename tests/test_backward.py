"""Point 32: backward through a shear."""

from shearyard.backward import before
from shearyard.beds import Bed
from shearyard.canon import canonical, least_plants
from shearyard.errors import OtherBed, TooMany
from shearyard.gardeners import Shear
from shearyard.lots import everything, only
from shearyard.readers import Reader
from tests.checking import YardTest, named
from tests.gardening import out_of, random_shear, shear_results
from tests.reference import (
    BED, TWINS, WIDE, canonical_by_trying, chain, folded, least_by_trying, plants_to, random_reader, shape, tower,
)

KNOTS = named(TooMany, what="knots", limit=2000)
STATES = named(TooMany, what="states", limit=40)
CHAINS = Bed(("twig", 1), ("leaf", 0), ("bud", 0))
TWICE = Shear(BED, 1, ((0, "twig", ("fork", (0, 0), (0, 0))),))


def remainders(modulus, *marks, bed=CHAINS):
    """A reader whose state is the number of twigs of a chain by this modulus."""
    rows = [("leaf", (), 0), ("bud", (), 0)] + [("twig", (at,), (at + 1) % modulus) for at in range(modulus)]
    return Reader(bed, modulus, tuple(rows), marks)


def outcome_step(reader, step, shear):
    """The step to the reader's states on what comes out, for each reached state of the shear in ascending order."""
    results, reached = shear_results(shear), shear.reached()

    def told(kind, below):
        found = []
        for state in reached:
            def entry_state(entries):
                entry = entries.pop(0)
                if isinstance(entry, tuple):
                    return below[entry[1]][reached.index(entry[0])]
                return step(entry, tuple([entry_state(entries) for _ in range(shear.bed.branches(entry))]))
            found.append(entry_state(list(results[state, kind])))
        return tuple(found)

    return told


class Before(YardTest):
    def test_by_trying(self):
        for bed in (BED, WIDE, TWINS):
            for seed in range(25):
                reader, _ = random_reader(bed, 1 + seed % 3, seed)
                shear = random_shear(bed, 1 + seed % 3, 40 + seed)
                found = before(reader, shear)
                for plant in plants_to(bed, 4):
                    out = out_of(bed, shear_results(shear), shear.start, plant)
                    self.assertIs(plant in found, out in reader)

    def test_canonical_results(self):
        tried = 0
        sizes = {}
        for bed, knots in ((BED, 6), (WIDE, 6)):
            for seed in range(40):
                reader, step = random_reader(bed, 1 + seed % 2, seed)
                shear = random_shear(bed, 1 + seed % 2, 300 + seed)
                told = outcome_step(reader, step, shear)
                place = shear.reached().index(shear.start)
                wanted = canonical_by_trying(bed, told, lambda joint: joint[place] in reader.marks, knots)
                if wanted is not None:
                    tried += 1
                    sizes[wanted[0]] = True
                    self.assertEqual(shape(before(reader, shear)), wanted)
        self.assertGreater(tried, 60)
        self.assertGreater(len(sizes), 2)

    def test_the_outcome_step_of_these_tests_is_right(self):
        reader, step = random_reader(BED, 3, 11)
        shear = random_shear(BED, 2, 5)
        told = outcome_step(reader, step, shear)
        for plant in plants_to(BED, 4):
            self.assertEqual(folded(BED, told, plant), tuple([
                reader.state_of(shear.work_from(plant, state)) for state in shear.reached()
            ]))

    def test_a_shear_that_copies(self):
        """Two copies are never different, so that no plant leads to a fork of a leaf and a bud."""
        mixed = only(BED, ("fork", "leaf", "bud"))
        self.assertEqual(shape(before(mixed, TWICE)), shape(mixed))
        found = before(only(BED, ("fork", "bud", "bud")), TWICE)
        self.assertEqual([plant for plant in plants_to(BED, 4) if plant in found],
                         [("twig", "bud"), ("fork", "bud", "bud")])

    def test_keeping_makes_the_canonical_reader(self):
        for seed in range(10):
            reader, _ = random_reader(BED, 4, seed)
            self.assertEqual(shape(before(reader, Shear.keeping(BED))), shape(canonical(reader)))
        self.assertEqual(shape(before(everything(BED), TWICE)), shape(everything(BED)))

    def test_the_reader_works_as_it_is_passed(self):
        """Its 41 joint states count, although its canonical reader has one state."""
        halves = Shear(CHAINS, 2, ((0, "twig", ((1, 0),)), (1, "twig", ("twig", (0, 0)))))
        self.assertEqual(before(remainders(20), halves).states, 1)
        self.refused(STATES, before, remainders(21), halves)

    def test_40_41_and_more_joint_states(self):
        keep = Shear.keeping(CHAINS)
        self.assertEqual(before(remainders(40, 7), keep).states, 40)
        halves = ((0, "twig", ((1, 0),)), (1, "twig", ("twig", (0, 0))))
        self.assertEqual(before(remainders(20, 7), Shear(CHAINS, 2, halves)).states, 40)
        self.refused(STATES, before, remainders(21, 7), Shear(CHAINS, 2, halves))
        # A bud that differs from a leaf in state 0 alone makes exactly one joint state more.
        for modulus in (19, 20):
            rows = [("leaf", (), 0), ("bud", (), modulus), ("twig", (modulus,), 1)]
            rows += [("twig", (at,), (at + 1) % modulus) for at in range(modulus)]
            reader = Reader(CHAINS, modulus + 1, tuple(rows), (3,))
            shear = Shear(CHAINS, 2, halves + ((1, "bud", ("leaf",)),))
            if modulus == 19:
                self.assertEqual(before(reader, shear).marks, before(remainders(19, 3), Shear(CHAINS, 2, halves)).marks)
            else:
                self.refused(STATES, before, reader, shear)

    def test_the_number_of_joint_states_by_trying(self):
        step = {("leaf", ()): 0, ("bud", ()): 20, ("twig", (20,)): 1}
        step.update({("twig", (at,)): (at + 1) % 20 for at in range(20)})
        shear = Shear(CHAINS, 2, ((0, "twig", ((1, 0),)), (1, "twig", ("twig", (0, 0))), (1, "bud", ("leaf",))))
        told = outcome_step(Reader(CHAINS, 21, (), ()), lambda kind, below: step[kind, below], shear)
        self.assertEqual(len(least_by_trying(CHAINS, told, 60)), 41)

    def test_only_reached_states_count(self):
        rows = ((0, "twig", ("twig", (0, 0))), (1, "twig", ((2, 0),)), (2, "twig", ("twig", (1, 0))))
        self.assertEqual(before(remainders(40, 1), Shear(CHAINS, 3, rows)).states, 40)
        self.refused(STATES, before, remainders(40, 1), Shear(CHAINS, 3, rows, start=1))

    def test_a_class_whose_least_plant_is_too_large(self):
        keep = Shear.keeping(BED)
        self.assertEqual(len(least_plants(before(tower(2000), keep))[-1]), 2000)
        self.refused(KNOTS, before, tower(2001), keep)

    def test_long_plants(self):
        found = before(only(BED, chain(30)), Shear(BED, 1, ((0, "twig", ("twig", "twig", (0, 0))),)))
        self.assertEqual(found.marks, ())
        found = before(only(BED, chain(31)), Shear(BED, 1, ((0, "twig", ("twig", "twig", (0, 0))),)))
        self.assertIn(chain(16), found)
        self.assertNotIn(chain(2000), found)

    def test_another_bed(self):
        turned = Bed(("bud", 0), ("leaf", 0), ("twig", 1), ("fork", 2))
        for bed in (turned, WIDE):
            self.refused(named(OtherBed), before, tower(2001), Shear.keeping(bed))
            self.refused(named(OtherBed), before, everything(bed), TWICE)
        self.assertEqual(before(everything(Bed(*BED.rows)), TWICE).states, 1)

    def test_the_arguments_do_not_change(self):
        reader, shear = random_reader(BED, 3, 1)[0], random_shear(BED, 2, 2)
        shown = (shape(reader), shear.table())
        before(reader, shear)
        self.assertEqual((shape(reader), shear.table()), shown)
