"""Points 57 to 59: finished plants, trims that keep a reader's state, shears that respect trims."""

import time
from itertools import product

from shearyard.beds import Bed
from shearyard.canon import canonical
from shearyard.errors import NotAlike, OtherBed, TooMany
from shearyard.gardeners import Shear
from shearyard.lots import everything
from shearyard.peaking import ends_alike
from shearyard.readers import Reader
from shearyard.trimlinks import changing, disturbed, finished_reader
from shearyard.trimming import end
from shearyard.trims import Trim, Trims
from tests.checking import YardTest, named
from tests.gardening import out_of, random_shear, shear_results
from tests.reference import BED, WIDE, folded, nested, plants_to, random_reader, shape
from tests.trimmers import ends_from, random_trims, tagged, tree_spots

FORKS = Bed(("leaf", 0), ("fork", 2))
SMALL = Bed(("leaf", 0), ("twig", 1), ("fork", 2))
LINE = Bed(("leaf", 0), ("twig", 1))
TURNED = Bed(("bud", 0), ("leaf", 0), ("twig", 1), ("fork", 2))
STATES = named(TooMany, what="states", limit=40)
HOLES = named(TooMany, what="holes", limit=3)
KNOTS = named(TooMany, what="knots", limit=2000)
SHORT = Trims(BED, Trim(BED, ("twig", "twig", "*"), ("twig", 0)))
SELF = Trims(BED, Trim(BED, ("twig", "twig", "*"), ("bud",)))


class Finished(YardTest):
    def test_against_all_small_plants(self):
        finished = 0
        for bed, many in ((FORKS, 60), (SMALL, 60), (BED, 40), (WIDE, 20)):
            plants = plants_to(bed, 5)
            for seed in range(many):
                trims = random_trims(bed, 2000 + seed, seed % 4)
                reader = finished_reader(trims)
                self.assertEqual(shape(reader), shape(canonical(reader)))
                for plant in plants:
                    self.assertEqual(plant in reader, not tree_spots(trims, nested(bed, plant)))
                    finished += plant in reader
        self.assertGreater(finished, 1000)

    def test_no_trims(self):
        self.assertEqual(shape(finished_reader(Trims(BED))), shape(everything(BED)))

    def test_forty_joint_states(self):
        # Runs of 0 to 38 twigs are finished; longer ones are one joint state more.
        reader = finished_reader(Trims(LINE, Trim(LINE, ("twig",) * 39 + ("*",), (0,))))
        self.assertEqual((reader.states, len(reader.marks)), (40, 39))
        self.refused(STATES, finished_reader, Trims(LINE, Trim(LINE, ("twig",) * 40 + ("*",), (0,))))
        # Other kinds begin the count of twigs anew above a spot, so that there are nearly twice as many joint states.
        reader = finished_reader(Trims(SMALL, Trim(SMALL, ("twig",) * 19 + ("*",), (0,))))
        self.assertEqual(len(reader.marks), 19)
        self.refused(STATES, finished_reader, Trims(SMALL, Trim(SMALL, ("twig",) * 20 + ("*",), (0,))))

    def test_equal_branches_count_once(self):
        full = ("twig",) * 38 + ("*",)
        trims = Trims(LINE, *[Trim(LINE, ("twig",) * many + full, (0,)) for many in (1, 1, 0)])
        self.assertEqual(finished_reader(trims).states, 39)
        self.refused(STATES, finished_reader, Trims(LINE, Trim(LINE, ("twig",) * 2 + full, (0,))))

    def test_large_stumps(self):
        start = time.time()
        row = ("twig",) * 30 + ("leaf",)
        trims = Trims(LINE, *[Trim(LINE, row[at:], ("leaf",)) for at in range(8)])
        self.assertEqual(finished_reader(trims).states, 24)
        self.assertLess(time.time() - start, 2)


def states_had(bed, step):
    """The states that plants have."""
    found = set()
    while True:
        more = {step(kind, below) for kind, many in bed.rows for below in product(sorted(found), repeat=many)}
        if more == found:
            return sorted(found)
        found = more


def plain_changing(trims, reader, step, states):
    """The first pair for which a trim changes the state, by the definition."""
    for index, trim in enumerate(trims.trims):
        many = trim.stump.count("*")
        for below in product(states, repeat=many):
            def stands(kind, row):
                return below[kind] if isinstance(kind, int) else step(kind, row)
            found = [folded(trims.bed, stands, tree) for tree in (tagged(trim.stump), trim.result)]
            if found[0] != found[1]:
                return index, below
    return None


class Changing(YardTest):
    def test_by_definition(self):
        kept = 0
        for bed, many in ((FORKS, 100), (SMALL, 100), (BED, 100), (WIDE, 60)):
            for seed in range(many):
                trims = random_trims(bed, 3000 + seed, 1 + seed % 3)
                reader, step = random_reader(bed, 1 + seed % 3, seed, 0.5)
                if max([trim.stump.count("*") for trim in trims.trims]) > 3:
                    self.refused(HOLES, changing, trims, reader)
                    continue
                answer = plain_changing(trims, reader, step, states_had(bed, step))
                self.assertEqual(changing(trims, reader), answer)
                kept += answer is None
        self.assertGreater(kept, 50)

    def test_states_that_no_plant_has_do_not_count(self):
        # A twig over state 2 has state 0, but no plant has state 2.
        reader = Reader(BED, 3, (("twig", (1,), 1), ("bud", (), 1), ("twig", (2,), 0)), (1,))
        trims = Trims(BED, Trim(BED, ("twig", "*"), (0,)))
        self.assertEqual(changing(trims, reader), None)
        other = Reader(BED, 3, (("twig", (1,), 1), ("bud", (), 1), ("twig", (2,), 0), ("fork", (0, 1), 2)), (1,))
        self.assertEqual(changing(trims, other), (0, (2,)))

    def test_the_first_pair(self):
        odd = Reader(BED, 2, (("bud", (), 1), ("twig", (1,), 1), ("fork", (0, 1), 1), ("fork", (1, 0), 1)), (1,))
        keep = Trim(BED, ("fork", "twig", "*", "*"), ("fork", 1, 0))
        drop = Trim(BED, ("fork", "twig", "*", "*"), ("twig", 1))
        self.assertEqual(changing(Trims(BED, keep, keep), odd), None)
        self.assertEqual(changing(Trims(BED, keep, drop), odd), (1, (1, 0)))
        self.assertEqual(changing(Trims(BED, Trim(BED, ("fork", "bud", "leaf"), ("leaf",)), drop), odd), (0, ()))

    def test_three_and_four_holes(self):
        three = Trim(BED, ("fork", "*", "fork", "*", "*"), ("fork", 2, 0))
        four = Trim(BED, ("fork", "fork", "*", "*", "fork", "*", "*"), ("leaf",))
        odd = random_reader(BED, 2, 4)[0]
        self.refused(HOLES, changing, Trims(BED, three, four), odd)
        self.assertEqual(changing(Trims(BED, three), everything(BED)), None)

    def test_many_states_and_large_stumps(self):
        start = time.time()
        rows = tuple([("twig", (at,), (at + 1) % 40) for at in range(40)] + [
            ("fork", (one, two), (one + two + 1) % 40) for one in range(40) for two in range(40)
        ])
        count = Reader(BED, 40, rows, (1,))
        stump = ("twig",) * 80 + ("fork", "*") * 2 + ("twig",) * 40 + ("*",)
        same = Trim(BED, stump, ("twig",) * 40 + ("fork", 2, "fork", 1, "twig", "twig") + ("twig",) * 38 + (0,))
        self.assertEqual(changing(Trims(BED, same, same), count), None)
        less = Trim(BED, stump, ("twig",) * 41 + ("fork", 2, "fork", 1, "twig") + ("twig",) * 38 + (0,))
        more = Trim(BED, stump, ("twig",) * 41 + ("fork", 2, "fork", 1, "twig", "twig") + ("twig",) * 38 + (0,))
        self.assertEqual(changing(Trims(BED, same, less), count), None)
        self.assertEqual(changing(Trims(BED, same, more), count), (1, (0, 0, 0)))
        self.assertLess(time.time() - start, 10)

    def test_beds_come_first(self):
        four = Trim(BED, ("fork", "fork", "*", "*", "fork", "*", "*"), ("leaf",))
        self.refused(named(OtherBed), changing, Trims(BED, four), everything(TURNED))


def tagged_out(shear, state, tree):
    """What comes out of a tree with numbered holes."""
    out = []
    results = shear_results(shear)

    def work(called, place):
        if isinstance(place[0], int):
            out.append(place[0] * shear.states + called)
            return
        for entry in results[called, place[0]]:
            if isinstance(entry, tuple):
                work(entry[0], place[1][entry[1]])
            else:
                out.append(entry)

    work(state, nested(shear.bed, tree))
    return tuple(out)


def plain_disturbed(shear, trims):
    """The first pair for which the two outcomes do not have the same end."""
    for state in shear.reached():
        for index, trim in enumerate(trims.trims):
            found = [ends_from(trims, tagged_out(shear, state, tree)) for tree in (tagged(trim.stump), trim.result)]
            if found[0] != found[1]:
                return state, index
    return None


class Disturbed(YardTest):
    def pairs(self):
        """Shears, and trims that end alike."""
        for bed, many in ((FORKS, 200), (SMALL, 300), (BED, 200)):
            for seed in range(many):
                trims = random_trims(bed, 4000 + seed, 1 + seed % 2)
                if ends_alike(trims):
                    yield random_shear(bed, 1 + seed % 3, seed, 3, seed % 5 != 0, 0.5), trims

    def test_by_definition(self):
        told = {True: 0, False: 0}
        for shear, trims in self.pairs():
            answer = disturbed(shear, trims)
            self.assertEqual(answer, plain_disturbed(shear, trims))
            told[answer is None] += 1
        self.assertGreater(min(told.values()), 30)

    def test_shears_that_respect_trims_lead_to_one_end(self):
        for shear, trims in self.pairs():
            if disturbed(shear, trims) is not None:
                continue
            for plant in plants_to(trims.bed, 5):
                wanted = end(trims, out_of(trims.bed, shear_results(shear), shear.start, plant))
                trimmed = end(trims, plant)
                self.assertEqual(end(trims, out_of(trims.bed, shear_results(shear), shear.start, trimmed)), wanted)

    def test_copies_drops_and_states_at_a_hole(self):
        twice = Shear(BED, 1, ((0, "twig", ("fork", (0, 0), (0, 0))),))
        self.assertEqual(disturbed(twice, SHORT), (0, 0))
        self.assertEqual(disturbed(Shear(BED, 1, ((0, "twig", ("leaf",)),)), SHORT), None)
        self.assertEqual(disturbed(Shear.keeping(BED), SHORT), None)
        # Twigs change the state of what stands above them, so a twig less shows at the hole.
        turns = Shear(BED, 2, ((0, "twig", ("twig", (1, 0))), (1, "twig", ("twig", (0, 0)))))
        self.assertEqual(disturbed(turns, SHORT), (0, 0))
        self.assertEqual(disturbed(Shear(BED, 2, ((0, "twig", ("twig", (1, 0))),)), SHORT), None)

    def test_states_that_are_not_reached_do_not_count(self):
        shear = Shear(BED, 2, ((1, "twig", ("fork", (1, 0), "leaf")),))
        self.assertEqual(disturbed(shear, SHORT), None)
        self.assertEqual(disturbed(Shear(BED, 2, ((1, "twig", ("fork", (1, 0), "leaf")),), start=1), SHORT), (1, 0))

    def test_checks(self):
        self.refused(named(NotAlike), disturbed, Shear.keeping(BED), SELF)
        self.refused(named(OtherBed), disturbed, Shear.keeping(TURNED), SELF)
        self.refused(named(OtherBed), disturbed, Shear.keeping(TURNED), SHORT)

    def test_large_outcomes(self):
        double = Shear(BED, 1, ((0, "twig", ("fork", (0, 0), (0, 0))),))
        trims = Trims(BED, Trim(BED, ("twig",) * 10 + ("*",), (0,)))
        self.refused(KNOTS, disturbed, double, trims)
        self.assertEqual(disturbed(double, Trims(BED, Trim(BED, ("twig",) * 9 + ("*",), (0,)))), (0, 0))
        start = time.time()
        longer = Shear(BED, 1, ((0, "twig", ("twig",) * 10 + ((0, 0),)),))
        self.assertEqual(disturbed(longer, Trims(BED, Trim(BED, ("twig",) * 199 + ("*",), (0,)))), None)
        self.refused(KNOTS, disturbed, Shear(BED, 1, ((0, "twig", ("twig",) * 11 + ((0, 0),)),)),
                     Trims(BED, Trim(BED, ("twig",) * 199 + ("*",), (0,))))
        self.assertLess(time.time() - start, 5)

    def test_later_pairs_are_not_asked(self):
        # The second trim alone would lead to too many knots.
        rows = ((0, "twig", ("fork", (0, 0), (0, 0))), (0, "fork", ("leaf",)))
        trims = Trims(BED, Trim(BED, ("twig", "fork", "*", "*"), (0,)), Trim(BED, ("twig",) * 12 + ("bud",), ("bud",)))
        self.assertEqual(disturbed(Shear(BED, 1, rows), trims), (0, 0))
        self.refused(KNOTS, disturbed, Shear(BED, 1, rows), Trims(BED, trims.trims[1], trims.trims[0]))


class Arguments(YardTest):
    def test_nothing_is_changed(self):
        reader = random_reader(BED, 3, 5)[0]
        shear = random_shear(BED, 2, 6, 3)
        before = repr((vars(SHORT), vars(reader), vars(shear)))
        for _ in range(2):
            finished_reader(SHORT), changing(SHORT, reader), disturbed(shear, SHORT)
        self.assertEqual(repr((vars(SHORT), vars(reader), vars(shear))), before)
