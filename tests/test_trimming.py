"""Points 48 and 50 to 52: open plants, spots, ways and ends."""

import inspect
import random
import time

from shearyard.beds import Bed
from shearyard.errors import InvalidPlant, NoPath, NoSpot, TooMany
from shearyard.trimming import cut_at, end, ends, fewest, spots, walked, way
from shearyard.trims import Trim, Trims
from tests.checking import YardTest, named
from tests.reference import BED, WIDE, chain, flat, left_comb, nested, plants_to, right_comb
from tests.trimmers import (
    cut_spot, entry_key, plants_from, random_open_plant, random_trims, tree_spots, whole_way,
)

KNOTS = named(TooMany, what="knots", limit=2000)
PLANTS = named(TooMany, what="plants", limit=2000)
FORKS = Bed(("leaf", 0), ("fork", 2))
SMALL = Bed(("leaf", 0), ("twig", 1), ("fork", 2))
SHORT = Trims(BED, Trim(BED, ("twig", "twig", "*"), ("twig", 0)))
EITHER = Trims(BED, Trim(BED, ("fork", "bud", "*"), (0,)), Trim(BED, ("fork", "*", "bud"), (0,)))


def no_spot(path, index):
    return named(NoSpot, path=path, index=index)


def cases():
    """Random trims and open plants."""
    for bed in (FORKS, SMALL, BED, WIDE):
        for seed in range(60):
            dice = random.Random(seed)
            plant = random_open_plant(bed, dice, 5 if bed is FORKS else 4)
            if len(plant) <= 30:
                yield random_trims(bed, seed, seed % 6), plant


def dense_cases():
    """Random trims that fit often, and open plants of two kinds."""
    for seed in range(150):
        plant = random_open_plant(FORKS, random.Random(seed), 5)
        if len(plant) <= 24:
            yield random_trims(FORKS, 500 + seed, 3 + seed % 3), plant


class OpenPlants(YardTest):
    def test_tags_count_as_leaves(self):
        for plant in ((0,), (10 ** 30,), ("twig", 5), ("fork", 3, 3), ("fork", 0, "leaf"), ("fork", "twig", 1, 0)):
            self.assertEqual((spots(EITHER, plant), end(EITHER, plant), ends(EITHER, plant)), ((), plant, (plant,)))
            self.assertEqual((way(EITHER, plant), walked(EITHER, plant, ())), ((), plant))
            self.assertEqual(fewest(EITHER, plant), (0, plant))

    def test_plants_are_checked(self):
        for plant, place in (
            (("fork", 0), 2), ((-1,), 0), (("twig", -1), 1), ((0, 0), 1), (("leaf", 0), 1), (("fork", 1, "*"), 2),
            (("rose",), 0), ((), 0), (("twig", "twig"), 2), (("fork", 0, 0, 0), 3),
        ):
            for call in (spots, way, end, ends, fewest):
                self.refused(named(InvalidPlant, place=place), call, EITHER, plant)
            self.refused(named(InvalidPlant, place=place), cut_at, EITHER, plant, (9,), 9)
            self.refused(named(InvalidPlant, place=place), walked, EITHER, plant, (((9,), 9),))

    def test_2000_and_2001_entries(self):
        for call in (spots, way, end, ends, fewest):
            call(EITHER, chain(1999, "twig") + (7,))
            self.refused(KNOTS, call, EITHER, chain(2000, "twig") + (7,))
            self.refused(KNOTS, call, EITHER, (-1,) * 2001)
        self.refused(KNOTS, cut_at, EITHER, chain(2001), (9,), 9)
        self.refused(KNOTS, walked, EITHER, chain(2001), ())

    def test_equal_tags_are_kept_apart_from_others(self):
        trims = Trims(BED, Trim(BED, ("fork", "*", "twig", "*"), ("fork", 1, 0)))
        self.assertEqual(end(trims, ("fork", 4, "twig", 9)), ("fork", 9, 4))
        self.assertEqual(end(trims, ("fork", 4, "twig", 4)), ("fork", 4, 4))

    def test_no_trim_fits_a_tag(self):
        self.assertEqual(spots(Trims(BED, Trim(BED, ("twig", "leaf"), ("leaf",))), ("fork", 0, "twig", 0)), ())
        self.refused(no_spot((0,), 0), cut_at, EITHER, ("fork", 0, "bud"), (0,), 0)
        self.refused(named(NoPath, path=(0, 0)), cut_at, EITHER, ("fork", 0, "bud"), (0, 0), 0)


class Spots(YardTest):
    def test_by_trying(self):
        found = 0
        for trims, plant in cases():
            tree = nested(trims.bed, plant)
            self.assertEqual(spots(trims, plant), tuple(tree_spots(trims, tree)))
            for path, index in tree_spots(trims, tree):
                found += 1
                self.assertEqual(cut_at(trims, plant, path, index), flat(cut_spot(trims, tree, path, index)))
        self.assertGreater(found, 100)

    def test_order(self):
        self.assertEqual(spots(EITHER, ("fork", "bud", "fork", "bud", "bud")),
                         (((), 0), ((1,), 0), ((1,), 1)))
        self.assertEqual(spots(EITHER, ("fork", "bud", "bud")), (((), 0), ((), 1)))

    def test_the_same_trim_twice(self):
        trims = Trims(BED, *EITHER.trims, EITHER.trims[0])
        self.assertEqual(spots(trims, ("fork", "bud", "leaf")), (((), 0), ((), 2)))

    def test_no_trims(self):
        for plant in plants_to(BED, 3):
            self.assertEqual((spots(Trims(BED), plant), ends(Trims(BED), plant)), ((), (plant,)))
            self.assertEqual((way(Trims(BED), plant), fewest(Trims(BED), plant)), ((), (0, plant)))

    def test_no_path(self):
        plant = ("fork", "twig", "bud", "leaf")
        for path in ((2,), (-1,), (0, 1), (1, 0), (0, 0, 0), (0, -1), (10 ** 30,)):
            self.refused(named(NoPath, path=path), cut_at, EITHER, plant, path, 7)
            self.refused(named(NoPath, path=path), walked, EITHER, plant, ((path, 7),))

    def test_no_spot(self):
        plant = ("fork", "twig", "bud", "bud")
        for path, index in (((), 2), ((), -1), ((), 10 ** 30), ((), 0), ((0,), 0), ((0, 0), 1)):
            self.refused(no_spot(path, index), cut_at, EITHER, plant, path, index)
        self.assertEqual(cut_at(EITHER, plant, (), 1), ("twig", "bud"))

    def test_dropped_and_turned_holes(self):
        trims = Trims(BED, Trim(BED, ("fork", "*", "fork", "*", "*"), ("fork", 2, 0)))
        plant = ("twig", "fork", "twig", "leaf", "fork", "bud", "twig", "bud")
        self.assertEqual(cut_at(trims, plant, (0,), 0), ("twig", "fork", "twig", "bud", "twig", "leaf"))


class Ways(YardTest):
    def test_by_trying(self):
        lengths = {}
        for trims, plant in cases():
            for last in (False, True):
                taken, finished = whole_way(trims, plant, last)
                self.assertEqual(way(trims, plant, last=last), taken)
                self.assertEqual(end(trims, plant, last=last), finished)
                self.assertEqual(walked(trims, plant, taken), finished)
                lengths[len(taken)] = True
            self.assertEqual((way(trims, plant), end(trims, plant)), whole_way(trims, plant, False))
        self.assertGreater(len(lengths), 6)

    def test_first_and_last(self):
        plant = ("fork", "bud", "fork", "twig", "leaf", "bud")
        self.assertEqual(way(EITHER, plant), (((), 0), ((), 1)))
        self.assertEqual(way(EITHER, plant, last=True), (((1,), 1), ((), 0)))
        for call in (way, end):
            self.assertEqual(str(inspect.signature(call)), "(trims, plant, *, last=False)")

    def test_a_trim_that_fits_anew_below(self):
        """The first spot may be one that the last trim has made, nearer to the root."""
        leaves = Trim(BED, ("twig", "bud"), ("leaf",))
        trims = Trims(BED, Trim(BED, ("fork", "twig", "twig", "leaf", "*"), (0,)), leaves)
        plant = ("twig", "fork", "twig", "twig", "twig", "bud", "twig", "bud")
        for last in (False, True):
            taken, finished = whole_way(trims, plant, last)
            self.assertEqual((way(trims, plant, last=last), end(trims, plant, last=last)), (taken, finished))
        self.assertEqual(way(trims, plant)[:2], (((0, 0, 0, 0), 1), ((0,), 0)))

    def test_a_trim_that_fits_anew_below_is_before_what_is_left_above(self):
        bud = Trim(BED, ("fork", "bud", "*"), (0,))
        for many in (1, 2):
            trims = Trims(BED, bud, Trim(BED, ("twig",) * (many + 1) + ("*",), ("twig",) * many + (0,)))
            plant = ("twig",) * many + ("fork", "bud", "twig", "fork", "bud", "leaf")
            inner = (0,) * many
            self.assertEqual(way(trims, plant), ((inner, 0), ((), 1), (inner, 0)))
            self.assertEqual(way(trims, plant, last=True), ((inner + (1, 0), 0), (inner, 0), ((), 1)))

    def test_the_spots_of_a_walk_are_those_of_the_moment(self):
        self.assertEqual(walked(SHORT, chain(5), (((0,), 0), ((), 0))), chain(3))
        self.refused(no_spot((), 0), walked, SHORT, chain(3), (((), 0), ((), 0), ((9,), 0)))
        self.refused(named(NoPath, path=(0, 0)), walked, SHORT, chain(3), (((), 0), ((0, 0), 0)))
        self.refused(no_spot((), 1), walked, SHORT, chain(3), (((), 1), ((9,), 0)))

    def test_long_plants(self):
        begun = time.perf_counter()
        self.assertEqual(way(SHORT, chain(2000)), (((), 0),) * 1998)
        last = way(SHORT, chain(2000), last=True)
        self.assertEqual((len(last), last[0], last[-1]), (1998, ((0,) * 1997, 0), ((), 0)))
        self.assertEqual(walked(SHORT, chain(2000), last), chain(2))
        inner = Trims(BED, Trim(BED, ("twig", "leaf"), ("leaf",)))
        self.assertEqual(way(inner, chain(2000)), tuple([((0,) * many, 0) for many in range(1998, -1, -1)]))
        leaves = Trims(BED, Trim(BED, ("fork", "leaf", "*"), (0,)))
        for plant, wanted in ((right_comb(999), 999), (left_comb(999), 999)):
            for last in (False, True):
                self.assertEqual(len(way(leaves, plant, last=last)), wanted)
                self.assertEqual(end(leaves, plant, last=last), ("leaf",))
        self.assertLess(time.perf_counter() - begun, 30)

    def test_a_large_stump(self):
        trims = Trims(BED, Trim(BED, ("twig",) * 199 + ("*",), ("twig",) * 198 + (0,)))
        self.assertEqual(end(trims, chain(2000)), chain(199))
        self.assertEqual(end(trims, chain(2000), last=True), chain(199))


class Ends(YardTest):
    def test_by_trying(self):
        found, large = {}, 0
        for trims, plant in [*cases(), *dense_cases()]:
            numbers = plants_from(trims, plant, 2000)
            if len(numbers) > 2000:
                large += 1
                continue
            finished = [one for one in numbers if not tree_spots(trims, nested(trims.bed, one))]
            finished = sorted(finished, key=lambda one: entry_key(trims.bed, one))
            self.assertEqual(ends(trims, plant), tuple(finished))
            least = min([numbers[one] for one in finished])
            self.assertEqual(fewest(trims, plant), (least, [one for one in finished if numbers[one] == least][0]))
            found[len(finished)] = True
        self.assertGreater(len(found), 3)

    def test_a_long_way_to_a_lesser_end(self):
        trims = Trims(BED, Trim(BED, ("twig", "twig", "*"), ("twig", 0)), Trim(BED, ("fork", "*", "*"), (0,)),
                      Trim(BED, ("fork", "*", "*"), (1,)))
        plant = ("fork", "fork", "bud", "bud") + chain(5)
        self.assertEqual(ends(trims, plant), (("bud",), chain(2)))
        self.assertEqual(fewest(trims, plant), (2, ("bud",)))
        self.assertEqual(fewest(trims, ("fork",) + chain(3) + chain(3, "bud")), (2, chain(2)))

    def test_the_least_end_of_equally_many_trims(self):
        trims = Trims(BED, Trim(BED, ("fork", "*", "*"), (1,)), Trim(BED, ("fork", "*", "*"), (0,)))
        self.assertEqual(fewest(trims, ("fork", "bud", "leaf")), (1, ("leaf",)))
        self.assertEqual(fewest(trims, ("fork", 7, 3)), (1, (3,)))
        plant = ("fork", "fork", 7, "twig", "bud", 10 ** 20)
        self.assertEqual(ends(trims, plant), ((7,), (10 ** 20,), ("twig", "bud")))
        self.assertEqual(ends(trims, ("fork", "bud", 0)), (("bud",), (0,)))

    def test_2000_and_2001_plants(self):
        """Chains of so many twigs below a fork, which only become shorter, make as many plants as their product."""
        for first, second in ((50, 40), (23, 87), (45, 45), (1, 1996), (3, 667)):
            plant = ("fork",) + chain(first + 1) + chain(second + 1, "bud")
            if first * second > 2000:
                for call in (ends, fewest):
                    self.refused(PLANTS, call, SHORT, plant)
            else:
                self.assertEqual(ends(SHORT, plant), (("fork", "twig", "leaf", "twig", "bud"),))
                self.assertEqual(fewest(SHORT, plant)[0], first + second - 2)

    def test_a_chain_of_2000_knots(self):
        self.assertEqual(ends(SHORT, chain(2000)), (chain(2),))
        self.assertEqual(fewest(SHORT, chain(2000)), (1998, chain(2)))
        drop = Trims(BED, Trim(BED, ("twig", "*"), (0,)))
        self.assertEqual(fewest(drop, chain(2000)), (1999, ("leaf",)))

    def test_more_plants_than_anyone_can_list(self):
        begun = time.perf_counter()
        first, second = Trim(BED, ("fork", "*", "*"), (0,)), Trim(BED, ("fork", "*", "*"), (1,))
        twigs = Trim(BED, ("twig", "leaf"), ("leaf",))
        for plant in (("fork",) * 500 + ("twig", "leaf") * 501, ("fork", "twig", "leaf") * 500 + ("leaf",)):
            for call in (ends, fewest):
                self.refused(PLANTS, call, Trims(BED, first, second, twigs), plant)
                self.refused(PLANTS, call, Trims(BED, twigs), plant)
        for plant in (right_comb(999), left_comb(999)):
            self.assertEqual(ends(Trims(BED, first, second), plant), (("leaf",),))
            self.assertEqual(fewest(Trims(BED, first, second), plant), (1, ("leaf",)))
        self.assertLess(time.perf_counter() - begun, 60)

    def test_no_argument_changes(self):
        plant = ("fork", "bud", "fork", "leaf", "bud")
        shown = (EITHER.trims, [trim.stump for trim in EITHER.trims])
        for call in (spots, way, end, ends, fewest):
            call(EITHER, plant)
        self.assertEqual(plant, ("fork", "bud", "fork", "leaf", "bud"))
        self.assertEqual((EITHER.trims, [trim.stump for trim in EITHER.trims]), shown)
