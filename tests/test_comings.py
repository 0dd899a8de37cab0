"""Point 36: what can come out of a garden, asked by readers."""

from shearyard.backward import before
from shearyard.beds import Bed
from shearyard.canon import canonical, least_in
from shearyard.comings import comes_from, outcomes, sources, unmarked
from shearyard.errors import InvalidPlant, OtherBed, TooMany
from shearyard.gardeners import Gate, Shear
from shearyard.gardens import Garden
from shearyard.lots import all_of, complement, everything, only
from shearyard.oneness import admitted, one_shear
from shearyard.readers import Reader
from tests.checking import YardTest, named
from tests.gardening import outcome_of, random_gardeners
from tests.reference import BED, TWINS, WIDE, chain, plants_to, random_reader, shape, tower

KNOTS = named(TooMany, what="knots", limit=2000)
STATES = named(TooMany, what="states", limit=40)
TURNED = Bed(("bud", 0), ("leaf", 0), ("twig", 1), ("fork", 2))
CHAINS = Bed(("twig", 1), ("leaf", 0))
TWICE = Shear(BED, 1, ((0, "twig", ("fork", (0, 0), (0, 0))),))
NONE = complement(everything(BED))
KNOTS_TRIED = 5


def remainders(modulus, *marks):
    """A reader whose state is the number of twigs of a chain by this modulus."""
    rows = [("leaf", (), 0)] + [("twig", (at,), (at + 1) % modulus) for at in range(modulus)]
    return Reader(CHAINS, modulus, tuple(rows), marks)


class ByTrying(YardTest):
    def gardens(self):
        """Pairs of a random garden and a random reader, and the plants of at most five knots with their outcomes."""
        for bed in (BED, WIDE, TWINS):
            for seed in range(25):
                garden = Garden(bed, *random_gardeners(bed, seed, seed % 4))
                reader, _ = random_reader(bed, 1 + seed % 3, 60 + seed)
                yield garden, reader, [(plant, outcome_of(garden, plant)) for plant in plants_to(bed, KNOTS_TRIED)]

    def check_least(self, found, tried):
        """Compare a plant, or None, with the least of the plants that were tried."""
        if tried:
            self.assertEqual(found, tried[0])
        else:
            self.assertTrue(found is None or len(found) > KNOTS_TRIED)

    def test_comes_from(self):
        for garden, reader, tried in self.gardens():
            found = comes_from(garden, reader)
            self.assertEqual(shape(found), shape(canonical(found)))
            for plant, out in tried:
                self.assertIs(plant in found, out is not None and out in reader)

    def test_outcomes(self):
        for garden, reader, tried in self.gardens():
            found = outcomes(garden, reader)
            self.assertEqual(len(found), reader.states)
            for state, plant in enumerate(found):
                self.check_least(plant, [
                    other for other, out in tried if out is not None and reader.state_of(out) == state
                ])
                if plant is not None:
                    self.assertEqual(reader.state_of(garden(plant)), state)

    def test_unmarked(self):
        nothing = 0
        for garden, reader, tried in self.gardens():
            found = unmarked(garden, reader)
            nothing += found is None
            self.check_least(found, [plant for plant, out in tried if out is not None and out not in reader])
        self.assertGreater(nothing, 5)

    def test_sources(self):
        for garden, _, tried in self.gardens():
            for wanted in plants_to(garden.bed, 2):
                found = sources(garden, wanted)
                self.assertEqual(shape(found), shape(canonical(found)))
                for plant, out in tried:
                    self.assertIs(plant in found, out == wanted)


class Cases(YardTest):
    def test_how_they_are_worked_out(self):
        for seed in range(20):
            garden = Garden(BED, *random_gardeners(BED, seed, 2))
            reader, _ = random_reader(BED, 3, seed)
            asked = [
                all_of(admitted(garden), before(Reader(BED, 3, reader.table(), (mark,)), one_shear(garden)))
                for mark in range(3)
            ]
            self.assertEqual(outcomes(garden, reader), tuple([least_in(lot) for lot in asked]))
            self.assertEqual(shape(comes_from(garden, reader)),
                             shape(all_of(admitted(garden), before(reader, one_shear(garden)))))
            self.assertEqual(unmarked(garden, reader), least_in(comes_from(garden, complement(reader))))
            self.assertEqual(shape(sources(garden, ("bud",))), shape(comes_from(garden, only(BED, ("bud",)))))

    def test_nothing_is_admitted(self):
        garden = Garden(BED, TWICE, Gate(NONE))
        self.assertEqual(shape(comes_from(garden, everything(BED))), shape(NONE))
        self.assertEqual(outcomes(garden, everything(BED)), (None,))
        self.assertIsNone(unmarked(garden, NONE))
        self.assertEqual(shape(sources(garden, ("leaf",))), shape(NONE))

    def test_an_empty_garden(self):
        reader, _ = random_reader(BED, 3, 4)
        self.assertEqual(shape(comes_from(Garden(BED), reader)), shape(canonical(reader)))
        self.assertEqual(shape(sources(Garden(BED), chain(20))), shape(only(BED, chain(20))))

    def test_states_that_no_plant_has(self):
        reader = Reader(BED, 3, (("leaf", (), 2),), (1, 2))
        self.assertEqual(outcomes(Garden(BED), reader), (("bud",), None, ("leaf",)))

    def test_copies_are_never_different(self):
        self.assertEqual(sources(Garden(BED, TWICE), ("fork", "leaf", "leaf")).states, 3)
        different = Reader(BED, 4, (("leaf", (), 1), ("bud", (), 2), ("fork", (1, 2), 3)), (0, 1, 2))
        leaves = (("leaf", (), 0), ("bud", (), 0), ("twig", (0,), 0))
        forks = Reader(BED, 2, leaves, (0,), otherwise=1)
        self.assertEqual(unmarked(Garden(BED, TWICE), different), ("fork", "leaf", "bud"))
        self.assertIsNone(unmarked(Garden(BED, Gate(forks), TWICE), different))

    def test_large_plants(self):
        double = Shear(BED, 1, ((0, "twig", ("twig", "twig", (0, 0))),))
        self.assertEqual(least_in(sources(Garden(BED, double), chain(39))), chain(20))
        self.assertIsNone(least_in(sources(Garden(BED, double), chain(38))))
        self.assertEqual(len(unmarked(Garden(BED, Gate(tower(2000))), NONE)), 2000)


class Errors(YardTest):
    def test_too_many_where_admitted_and_before_raise_it(self):
        both = Garden(CHAINS, Gate(remainders(6, 1)), Gate(remainders(7, 1)))
        halves = Garden(CHAINS, Shear(CHAINS, 2, ((0, "twig", ((1, 0),)), (1, "twig", ("twig", (0, 0))))))
        for call in (comes_from, outcomes, unmarked):
            self.refused(STATES, call, both, everything(CHAINS))
            call(halves, remainders(20, 1))
            self.refused(STATES, call, halves, remainders(21, 1))
        self.refused(STATES, sources, both, ("leaf",))
        self.refused(STATES, sources, Garden(CHAINS, Gate(remainders(20, 1))), ("twig",) * 25 + ("leaf",))
        turning = [Shear(CHAINS, many, tuple([
            (at, "twig", ("twig", ((at + 1) % many, 0))) for at in range(many)
        ])) for many in (6, 7)]
        for call in (comes_from, outcomes, unmarked):
            self.refused(named(TooMany, what="shear", limit=40), call, Garden(CHAINS, *turning), everything(CHAINS))

    def test_sources_of_plants_with_39_and_40_branches(self):
        self.assertEqual(least_in(sources(Garden(BED), chain(39))), chain(39))
        self.refused(STATES, sources, Garden(BED), chain(40))

    def test_a_plant_to_return_is_too_large(self):
        for call in (outcomes, unmarked):
            self.refused(KNOTS, call, Garden(BED, Gate(tower(2001))), NONE)
        self.refused(KNOTS, comes_from, Garden(BED), tower(2001))

    def test_plants_are_checked_first(self):
        garden = Garden(BED, Gate(tower(2001)))
        self.refused(named(InvalidPlant, place=2), sources, garden, ("fork", "leaf"))
        self.refused(KNOTS, sources, Garden(BED), ("rose",) * 2001)

    def test_another_bed(self):
        for bed in (TURNED, WIDE):
            for call in (comes_from, outcomes, unmarked):
                self.refused(named(OtherBed), call, Garden(BED, Gate(tower(2001))), everything(bed))
                self.refused(named(OtherBed), call, Garden(bed), tower(2001))
        self.assertEqual(outcomes(Garden(BED), everything(Bed(*BED.rows))), (("leaf",),))

    def test_the_arguments_do_not_change(self):
        garden = Garden(BED, *random_gardeners(BED, 8, 4))
        reader, _ = random_reader(BED, 3, 5)
        shown = (garden.gardeners, shape(reader))
        for call in (comes_from, outcomes, unmarked):
            call(garden, reader)
        sources(garden, ("leaf",))
        self.assertEqual((garden.gardeners, shape(reader)), shown)
