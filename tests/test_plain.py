"""Point 95: the plain twin, and the program compared with it."""

import random

from shearyard.alike import parting
from shearyard.beds import Bed
from shearyard.comings import unmarked
from shearyard.errors import InvalidPlant, InvalidWeighing, OtherBed, TooMany
from shearyard.gardeners import Gate, Shear
from shearyard.gardens import Garden
from shearyard.lots import complement, everything, only
from shearyard.peaking import ends_alike
from shearyard.pictures import HeightPicture
from shearyard.plain import plain_breaking, plain_change, plain_parting, plain_two_ends, plain_unmarked
from shearyard.prices import Prices, cheapest, price
from shearyard.trims import Trim, Trims
from shearyard.weighing import always, breaking
from tests.checking import YardTest, named
from tests.gardening import changed_shear, outcome_of, random_gardeners, random_shear
from tests.reference import BED, WIDE, chain, plants_to, random_reader
from tests.sums import holds_for, numbers
from tests.trimmers import ends_from, random_trims

TURNED = Bed(("bud", 0), ("leaf", 0), ("twig", 1), ("fork", 2))
FORKS = Bed(("leaf", 0), ("fork", 2))
KNOTS = named(TooMany, what="knots", limit=2000)
OTHER = named(OtherBed)
INVALID = named(InvalidWeighing)
NEVER = Gate(complement(everything(BED)))


def first_of(bed, knots, wanted):
    """The first plant as wanted, or None."""
    return next((plant for plant in plants_to(bed, knots) if wanted(plant)), None)


class Parting(YardTest):
    def test_by_trying_and_against_the_program(self):
        beyond = 0
        for bed, knots in ((BED, 5), (WIDE, 4), (FORKS, 7)):
            for seed in range(25):
                row = random_gardeners(bed, seed, 2)
                other = [changed_shear(one, seed) if isinstance(one, Shear) else one for one in row]
                first, second = Garden(bed, *row), Garden(bed, *other)
                wanted = first_of(bed, knots, lambda plant: outcome_of(first, plant) != outcome_of(second, plant))
                self.assertEqual(plain_parting(first, second, knots), wanted)
                plant = parting(first, second)
                if plant is not None and len(plant) > knots:
                    beyond += 1
                    plant = None
                self.assertEqual(plant, wanted)
        self.assertGreater(beyond, 0)

    def test_which_gate_refuses_does_not_matter(self):
        gates = [Gate(complement(only(BED, plant))) for plant in (("leaf",), ("bud",))]
        self.assertEqual(plain_parting(Garden(BED, *gates), Garden(BED, *gates[::-1]), 4), None)
        self.assertEqual(plain_parting(Garden(BED, *gates), Garden(BED, gates[0]), 4), ("bud",))
        self.assertEqual(plain_parting(Garden(BED, NEVER), Garden(BED), 1), ("leaf",))


class Unmarked(YardTest):
    def test_by_trying_and_against_the_program(self):
        told = {True: 0, False: 0}
        for bed, knots in ((BED, 5), (WIDE, 4)):
            for seed in range(25):
                garden = Garden(bed, *random_gardeners(bed, seed, 2))
                reader = random_reader(bed, 2, seed, 0.9)[0]

                def escapes(plant):
                    out = outcome_of(garden, plant)
                    return out is not None and out not in reader

                wanted = first_of(bed, knots, escapes)
                self.assertEqual(plain_unmarked(garden, reader, knots), wanted)
                plant = unmarked(garden, reader)
                self.assertEqual(plant if plant is not None and len(plant) <= knots else None, wanted)
                told[wanted is None] += 1
        self.assertGreater(min(told.values()), 5)


class TwoEnds(YardTest):
    def test_by_trying_and_against_the_program(self):
        found = 0
        for bed, knots in ((BED, 5), (FORKS, 7)):
            for seed in range(60):
                trims = random_trims(bed, 7000 + seed, 1 + seed % 3)
                plant = plain_two_ends(trims, knots)
                self.assertEqual(plant, first_of(bed, knots, lambda one: len(ends_from(trims, one)) > 1))
                if plant is not None:
                    found += 1
                    self.assertIs(ends_alike(trims), False)
        self.assertGreater(found, 10)

    def test_open_plants_do_not_count(self):
        # Only open plants have two ends.
        bed = Bed(("leaf", 0), ("twig", 1), ("fork", 2))
        trims = Trims(bed, Trim(bed, ("fork", "*", "*"), (0,)), Trim(bed, ("fork", "*", "*"), (1,)),
                      Trim(bed, ("twig", "*"), (0,)))
        self.assertEqual((plain_two_ends(trims, 7), ends_alike(trims)), (None, False))
        self.assertEqual(plain_two_ends(Trims(BED), 5), None)
        self.assertEqual(plain_two_ends(Trims(BED, Trim(BED, ("twig", "twig", "*"), ("bud",))), 5),
                         ("twig", "twig", "twig", "leaf"))


class Breaking(YardTest):
    def test_by_trying_and_against_the_program(self):
        broken = 0
        for bed, knots in ((BED, 5), (WIDE, 4)):
            for seed in range(25):
                garden = Garden(bed, *random_gardeners(bed, seed, 2))
                outs = {plant: outcome_of(garden, plant) for plant in plants_to(bed, knots)}
                if not any(outs.values()):
                    self.assertEqual(plain_breaking(garden, (1,) * (2 * len(bed.kinds) + 1), knots), None)
                    continue
                dice = random.Random(seed)
                for weighing in (*always(garden), *[
                    tuple([dice.randrange(-2, 3) for _ in range(2 * len(bed.kinds) + 1)]) for _ in range(4)
                ]):
                    wanted = first_of(bed, knots, lambda plant: outs[plant] is not None and not holds_for(
                        weighing, numbers(bed, plant) + numbers(bed, outs[plant])))
                    self.assertEqual(plain_breaking(garden, weighing, knots), wanted)
                    broken += wanted is not None
                    self.assertIs(breaking(garden, weighing) is None and wanted is not None, False)
        self.assertGreater(broken, 100)

    def test_no_admitted_plant(self):
        self.assertEqual(plain_breaking(Garden(BED, NEVER), (0,) * 8 + (1,), 4), None)
        self.assertEqual(plain_breaking(Garden(BED, Gate(only(BED, chain(5)))), (0,) * 8 + (1,), 4), None)
        self.assertEqual(plain_breaking(Garden(BED, Gate(only(BED, chain(5)))), (0,) * 8 + (1,), 5), chain(5))
        self.refused(INVALID, plain_breaking, Garden(BED, NEVER), (0,) * 8, 4)


class Change(YardTest):
    def test_by_trying_and_against_the_program(self):
        told = {True: 0, False: 0}
        swaps = (("leaf", "bud", 2), ("bud", "leaf", 0))
        for seed in range(40):
            prices = Prices(BED, seed % 5, *swaps[:seed % 3])
            reader = random_reader(BED, 3, seed, 0.8)[0]
            for plant in random.Random(seed).sample(plants_to(BED, 5), 3):
                for knots in (2, 5):
                    found = [(price(prices, plant, other), at, other) for at, other in enumerate(plants_to(BED, knots))
                             if other in reader and price(prices, plant, other) is not None]
                    wanted = (min(found)[0], min(found)[2]) if found else None
                    self.assertEqual(plain_change(prices, plant, reader, knots), wanted)
                    told[wanted is None] += 1
                # A change leads to no larger plant.
                self.assertEqual(plain_change(prices, plant, reader, len(plant)), cheapest(prices, plant, reader))
        self.assertGreater(min(told.values()), 10)

    def test_large_plants(self):
        prices = Prices(BED, 7, ("leaf", "bud", 1))
        self.assertEqual(plain_change(prices, chain(2000), everything(BED), 3), (7, ("leaf",)))
        self.assertEqual(plain_change(prices, chain(3), HeightPicture(BED, 3, slack=0).as_reader(), 3), (0, chain(3)))


class Checks(YardTest):
    def test_without_knots(self):
        first, second = Garden(BED, Shear.mirror(BED)), Garden(BED, NEVER)
        trims = Trims(BED, Trim(BED, ("twig", "twig", "*"), ("bud",)))
        self.assertEqual((
            plain_parting(first, second, 0), plain_unmarked(first, complement(everything(BED)), 0),
            plain_two_ends(trims, 0), plain_breaking(first, (1,) * 9, 0),
            plain_change(Prices(BED, 0), ("leaf",), everything(BED), 0),
        ), (None,) * 5)

    def test_arguments_are_checked(self):
        other = Garden(TURNED)
        for knots in (0, 3):
            self.refused(OTHER, plain_parting, Garden(BED), other, knots)
            self.refused(OTHER, plain_unmarked, other, everything(BED), knots)
            self.refused(OTHER, plain_change, Prices(TURNED, 0), ("rose",), everything(BED), knots)
            self.refused(INVALID, plain_breaking, Garden(BED), (0,) * 10, knots)
            self.refused(named(InvalidPlant, place=0), plain_change, Prices(BED, 0), ("rose",), everything(BED), knots)
            self.refused(KNOTS, plain_change, Prices(BED, 0), ("rose",) * 2001, everything(BED), knots)

    def test_nine_knots(self):
        first = Garden(FORKS, random_shear(FORKS, 2, 5, 3))
        self.assertEqual(plain_parting(first, first, 9), None)
        self.assertEqual(plain_two_ends(Trims(FORKS, Trim(FORKS, ("fork", "*", "*"), (0,))), 9), None)
