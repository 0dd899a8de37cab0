"""Point 34: gardens and what comes out of them."""

import inspect

from shearyard.beds import Bed
from shearyard.errors import InvalidPlant, OtherBed, Refused, TooMany
from shearyard.gardeners import Gardener, Gate, Shear
from shearyard.gardens import Garden
from shearyard.lots import complement, everything, only
from shearyard.readers import Reader
from tests.checking import YardTest, named
from tests.gardening import outcome_of, random_gardeners
from tests.reference import BED, WIDE, chain, left_comb, plants_to, right_comb

KNOTS = named(TooMany, what="knots", limit=2000)
GARDENERS = named(TooMany, what="gardeners", limit=8)
TURNED = Bed(("bud", 0), ("leaf", 0), ("twig", 1), ("fork", 2))
KEEP, MIRROR = Shear.keeping(BED), Shear.mirror(BED)
TWICE = Shear(BED, 1, ((0, "twig", ("fork", (0, 0), (0, 0))),))
ALL, NONE = Gate(everything(BED)), Gate(complement(everything(BED)))
IDLE = Gardener(BED, "idle")


def refusal(place, plant):
    return named(Refused, place=place, plant=plant)


class Calls(YardTest):
    def test_attributes(self):
        garden = Garden(BED, MIRROR, ALL, name="south")
        self.assertIs(garden.bed, BED)
        self.assertEqual((garden.gardeners, garden.name), ((MIRROR, ALL), "south"))
        self.assertEqual((Garden(BED).gardeners, Garden(BED).name), ((), "garden"))

    def test_by_trying(self):
        refused = 0
        for bed in (BED, WIDE):
            for seed in range(25):
                garden = Garden(bed, *random_gardeners(bed, seed, seed % 5))
                for plant in plants_to(bed, 4):
                    wanted = outcome_of(garden, plant)
                    self.assertIs(garden.admits(plant), wanted is not None)
                    if wanted is None:
                        refused += 1
                        self.check_refusal(garden, plant)
                    else:
                        self.assertEqual(garden(plant), wanted)
                        self.check_stages(garden, plant)
        self.assertGreater(refused, 100)

    def check_stages(self, garden, plant):
        """Compare the stages with what the gardens of the first gardeners return."""
        self.assertEqual(garden.stages(plant), tuple([
            outcome_of(Garden(garden.bed, *garden.gardeners[:many]), plant) for many in range(len(garden) + 1)
        ]))

    def check_refusal(self, garden, plant):
        """The first gate that refuses and the plant before it are told."""
        before = [Garden(garden.bed, *garden.gardeners[:many]) for many in range(len(garden) + 1)]
        place = [outcome_of(part, plant) for part in before].index(None) - 1
        self.refused(refusal(place, outcome_of(before[place], plant)), garden, plant)
        self.refused(refusal(place, outcome_of(before[place], plant)), garden.stages, plant)

    def test_an_empty_garden(self):
        garden = Garden(BED)
        for plant in plants_to(BED, 3) + [chain(2000), left_comb(999)]:
            self.assertEqual((garden(plant), garden.stages(plant), garden.admits(plant)), (plant, (plant,), True))
        self.assertEqual(len(garden), 0)

    def test_gardeners_of_the_base_class(self):
        garden = Garden(BED, IDLE, MIRROR, IDLE, NONE)
        plant = ("fork", "leaf", "bud")
        self.assertEqual(len(garden), 4)
        self.refused(refusal(3, ("fork", "bud", "leaf")), garden, plant)
        self.assertEqual(Garden(BED, IDLE, MIRROR, IDLE).stages(plant),
                         (plant, plant, ("fork", "bud", "leaf"), ("fork", "bud", "leaf")))

    def test_the_same_gardener_twice(self):
        garden = Garden(BED, TWICE, MIRROR, TWICE, TWICE)
        self.assertEqual(garden(("twig", "bud")), ("fork", "bud", "bud"))
        longer = Shear(BED, 1, ((0, "leaf", ("twig", "leaf")),))
        self.assertEqual(Garden(BED, *[longer] * 8)(("leaf",)), chain(9))

    def test_the_plant_that_is_refused_is_the_one_before_the_gate(self):
        garden = Garden(BED, Shear(BED, 1, ((0, "bud", ("leaf",)),)), ALL, Gate(only(BED, ("bud",))))
        self.refused(refusal(2, ("leaf",)), garden, ("bud",))
        self.assertIs(garden.admits(("bud",)), False)

    def test_plants_are_checked(self):
        for garden in (Garden(BED), Garden(BED, NONE), Garden(BED, MIRROR)):
            for call in (garden, garden.stages, garden.admits):
                self.refused(named(InvalidPlant, place=2), call, ("fork", "leaf"))
                self.refused(named(InvalidPlant, place=0), call, ("*",))
                self.refused(KNOTS, call, chain(2001))

    def test_long_plants(self):
        garden = Garden(BED, MIRROR, ALL, MIRROR, MIRROR)
        self.assertEqual(garden(right_comb(999)), left_comb(999))
        self.assertEqual(garden(chain(2000)), chain(2000))


class TooLarge(YardTest):
    def test_2000_and_2001_knots(self):
        longer = Shear(BED, 1, ((0, "leaf", ("twig", "leaf")),))
        self.assertEqual(len(Garden(BED, longer, longer)(chain(1998))), 2000)
        garden = Garden(BED, longer, longer)
        for call in (garden, garden.stages, garden.admits):
            self.refused(KNOTS, call, chain(1999))

    def test_what_comes_first_along_the_row(self):
        plant = chain(12)
        for garden, wanted in (
            (Garden(BED, TWICE, NONE), KNOTS), (Garden(BED, NONE, TWICE), refusal(0, plant)),
            (Garden(BED, ALL, MIRROR, NONE, TWICE), refusal(2, plant)), (Garden(BED, ALL, TWICE, ALL), KNOTS),
        ):
            self.refused(wanted, garden, plant)
            self.refused(wanted, garden.stages, plant)
        self.assertIs(Garden(BED, NONE, TWICE).admits(plant), False)
        self.refused(KNOTS, Garden(BED, TWICE, NONE).admits, plant)

    def test_large_between_two_gardeners(self):
        """What would be small again at the end is too large in between."""
        small = Shear(BED, 1, ((0, "fork", ("leaf",)),))
        self.refused(KNOTS, Garden(BED, TWICE, small), chain(12))
        self.assertEqual(Garden(BED, TWICE, small)(chain(10)), ("leaf",))


class Rows(YardTest):
    def test_8_and_9_gardeners(self):
        self.assertEqual(len(Garden(BED, *[MIRROR] * 8)), 8)
        self.refused(GARDENERS, Garden, BED, *[MIRROR] * 9)
        self.refused(GARDENERS, Garden, BED, *[IDLE] * 9)

    def test_sums(self):
        first, second = Garden(BED, MIRROR, ALL, name="north"), Garden(BED, TWICE, name="south")
        both = first + second
        self.assertIsInstance(both, Garden)
        self.assertEqual((both.gardeners, both.name, len(both)), ((MIRROR, ALL, TWICE), "north", 3))
        self.assertEqual((second + first).name, "south")
        self.assertEqual((len(first), len(second)), (2, 1))
        self.assertEqual(len(Garden(BED) + Garden(BED)), 0)

    def test_sums_by_trying(self):
        for seed in range(15):
            first = Garden(BED, *random_gardeners(BED, seed, 2))
            second = Garden(BED, *random_gardeners(BED, 50 + seed, 2))
            for plant in plants_to(BED, 3):
                between = outcome_of(first, plant)
                wanted = None if between is None else outcome_of(second, between)
                self.assertEqual((first + second)(plant) if (first + second).admits(plant) else None, wanted)

    def test_sums_of_8_and_9_gardeners(self):
        five, four, three = [Garden(BED, *[KEEP] * many) for many in (5, 4, 3)]
        self.assertEqual(len(five + three), 8)
        with self.assertRaises(TooMany) as caught:
            five + four
        self.assertEqual((caught.exception.what, caught.exception.limit), ("gardeners", 8))

    def test_another_bed(self):
        for bed in (TURNED, WIDE):
            for other in (Shear.keeping(bed), Gate(everything(bed)), Gardener(bed, "idle")):
                self.refused(named(OtherBed), Garden, BED, KEEP, other)
                self.refused(named(OtherBed), Garden, BED, *[KEEP] * 9, other)
                for garden in (Garden(bed), Garden(bed, *[other] * 8)):
                    with self.assertRaises(OtherBed):
                        Garden(BED, *[KEEP] * 8) + garden
        twin = Bed(*BED.rows)
        self.assertEqual(len(Garden(twin, KEEP) + Garden(BED, Shear.mirror(twin))), 2)

    def test_no_argument_changes(self):
        first, second = Garden(BED, MIRROR), Garden(BED, TWICE)
        plant = ("twig", "bud")
        for call in (first, first.stages, first.admits):
            call(plant)
        self.assertEqual((first + second).gardeners, (MIRROR, TWICE))
        self.assertEqual((first.gardeners, second.gardeners, plant), ((MIRROR,), (TWICE,), ("twig", "bud")))

    def test_the_name_is_passed_by_keyword(self):
        self.assertEqual(str(inspect.signature(Garden)), "(bed, *gardeners, name='garden')")

    def test_readers_of_gates_work_as_they_are(self):
        reader = Reader(BED, 3, (("leaf", (), 2),), (2,))
        self.assertIs(Garden(BED, Gate(reader)).gardeners[0].reader, reader)
