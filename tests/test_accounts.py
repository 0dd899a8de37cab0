"""Point 70: accounts, which are counted without building what comes out."""

import time

from shearyard.accounts import account
from shearyard.beds import Bed
from shearyard.errors import InvalidPlant, Refused, TooMany
from shearyard.gardeners import Gardener, Gate, Shear
from shearyard.gardens import Garden
from shearyard.lots import complement, everything, only
from shearyard.pictures import CountPicture
from tests.checking import YardTest, named
from tests.gardening import outcome_of, random_gardeners
from tests.reference import BED, WIDE, chain, plants_to, right_comb

KNOTS = named(TooMany, what="knots", limit=2000)
TWICE = Shear(BED, 1, ((0, "twig", ("fork", (0, 0), (0, 0))),))


def numbers(bed, plant):
    return tuple([plant.count(kind) for kind in bed.kinds])


class Accounts(YardTest):
    def test_by_working_plants(self):
        told = {True: 0, False: 0}
        for bed, knots in ((BED, 5), (WIDE, 4)):
            for seed in range(60):
                garden = Garden(bed, *random_gardeners(bed, seed, seed % 4, seed % 2 == 0))
                for plant in plants_to(bed, knots):
                    out = outcome_of(garden, plant)
                    told[out is None] += 1
                    if out is None:
                        self.refused(named(Refused, place=-1, plant=plant), account, garden, plant)
                    else:
                        self.assertEqual(account(garden, plant), numbers(bed, plant) + numbers(bed, out))
        self.assertGreater(min(told.values()), 500)

    def test_plants_worked_by_hand(self):
        garden = Garden(BED, TWICE, Shear.mirror(BED))
        self.assertEqual(account(garden, ("twig", "twig", "bud")), (0, 1, 2, 0, 0, 4, 0, 3))
        self.assertEqual(account(Garden(BED), ("fork", "twig", "bud", "leaf")), (1, 1, 1, 1) * 2)
        drop = Garden(BED, Shear(BED, 1, ((0, "fork", ("twig", (0, 1))),)))
        self.assertEqual(account(drop, ("fork", "bud", "leaf")), (1, 1, 0, 1, 1, 0, 1, 0))

    def test_outcomes_without_limit(self):
        start = time.time()
        for plant in (chain(2000), chain(1000, "bud")):
            many = len(plant) - 1
            leaf, bud = (0, 1) if plant[-1] == "bud" else (1, 0)
            wanted = (leaf, bud, many, 0, leaf * 2 ** many, bud * 2 ** many, 0, 2 ** many - 1)
            self.assertEqual(account(Garden(BED, TWICE), plant), wanted)
        triple = Shear(BED, 1, ((0, "fork", ("fork", (0, 1), "fork", (0, 1), (0, 1))),))
        plant = right_comb(999)
        wanted = (1000, 0, 0, 999, 3 ** 999, 0, 0, 3 ** 999 - 1)
        self.assertEqual(account(Garden(BED, triple), plant), wanted)
        self.assertLess(time.time() - start, 5)

    def test_several_shears_without_limit_between_them(self):
        # The first shear makes far too many knots for a call; the second one drops all but a few.
        prune = Shear(BED, 1, ((0, "fork", ("twig", (0, 0))),))
        garden = Garden(BED, TWICE, prune)
        self.refused(KNOTS, garden, chain(100))
        self.assertEqual(account(garden, chain(100)), (1, 0, 99, 0, 1, 0, 99, 0))

    def test_states_of_the_shear(self):
        turns = Shear(BED, 2, (
            (0, "twig", ("fork", (1, 0), (0, 0))), (1, "twig", ("twig", (0, 0))), (1, "leaf", ("bud",)),
        ))
        garden = Garden(BED, turns)
        for knots in range(1, 10):
            plant = chain(knots)
            self.assertEqual(account(garden, plant), numbers(BED, plant) + numbers(BED, turns(plant)))


class Checks(YardTest):
    def test_the_plant_comes_first(self):
        garden = Garden(BED, *[Gate(CountPicture(BED, "twig", many, 0).as_reader()) for many in (5, 9)])
        self.refused(named(InvalidPlant, place=1), account, garden, ("twig",))
        self.refused(KNOTS, account, garden, ("rose",) * 2001)
        self.refused(named(TooMany, what="states", limit=40), account, garden, ("leaf",))

    def test_the_garden_comes_before_a_refusal(self):
        grow = Shear(BED, 1, ((0, "bud", ("twig",) * 100 + ("bud",)),))
        wide = Shear(BED, 1, ((0, "bud", ("twig",) * 101 + ("bud",)),))
        never = Gate(complement(everything(BED)))
        self.refused(named(TooMany, what="shear", limit=40), account, Garden(BED, never, grow, wide), ("leaf",))
        self.refused(named(Refused, place=-1, plant=("leaf",)), account, Garden(BED, grow, never), ("leaf",))

    def test_a_refusal_tells_the_plant(self):
        garden = Garden(BED, Gardener(BED, "by"), Gate(only(BED, ("bud",))))
        self.assertEqual(account(garden, ("bud",)), (0, 1, 0, 0) * 2)
        self.refused(named(Refused, place=-1, plant=("twig", "bud")), account, garden, ("twig", "bud"))

    def test_one_kind(self):
        bed = Bed(("leaf", 0))
        self.assertEqual(account(Garden(bed), ("leaf",)), (1, 1))
