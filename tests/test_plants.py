"""Points 9 to 12: plants, their checks, paths and branches, the order of plants."""

from itertools import product

from shearyard.beds import Bed
from shearyard.errors import InvalidPlant, NoPath, TooMany, UnknownKind, WrongBranches
from shearyard.plants import (
    branch_at, branches_of, check_plant, counted, height, paths, plant_key, planted, replaced,
)
from tests.checking import YardTest, named
from tests.reference import (
    BED, TWINS, WIDE, chain, flat, left_comb, nested, plants_to, right_comb, spots_of,
)

KNOTS = named(TooMany, what="knots", limit=2000)
PLANT = ("fork", "twig", "bud", "leaf")
# Each takes a plant first; the other arguments are valid for every plant.
TAKERS = (
    check_plant, plant_key, height, counted, branches_of, paths,
    lambda bed, plant: branch_at(bed, plant, ()),
    lambda bed, plant: replaced(bed, plant, (), ("leaf",)),
    lambda bed, plant: replaced(bed, ("leaf",), (), plant),
    lambda bed, plant: planted(bed, "twig", plant),
    lambda bed, plant: planted(bed, "fork", ("leaf",), plant),
)


def at(place):
    return named(InvalidPlant, place=place)


def nowhere(path):
    return named(NoPath, path=path)


def fault(bed, entries, beginnings, plants):
    """The least place up to which the entries cannot begin a plant, found by trying; None for a plant."""
    for place in range(len(entries)):
        if entries[:place + 1] not in beginnings:
            return place
    return None if entries in plants else len(entries)


class Checks(YardTest):
    def test_valid_plants(self):
        for plant in (("leaf",), ("bud",), ("twig", "bud"), PLANT, ("fork", "leaf", "fork", "bud", "bud")):
            self.assertIsNone(check_plant(BED, plant))
        self.assertIsNone(check_plant(WIDE, ("tri", "knob", "ash", "bud", "knob", "stem", "bud")))

    def test_least_places(self):
        self.refused(at(2), check_plant, BED, ("fork", "leaf"))
        self.refused(at(0), check_plant, BED, ())
        self.refused(at(0), check_plant, BED, ("rose",))
        self.refused(at(1), check_plant, BED, ("leaf", "leaf"))
        self.refused(at(1), check_plant, BED, ("leaf", "rose", "rose"))
        self.refused(at(1), check_plant, BED, ("twig",))
        self.refused(at(1), check_plant, BED, ("twig", "*"))
        self.refused(at(2), check_plant, BED, ("fork", "leaf", "rose", "leaf"))
        self.refused(at(3), check_plant, BED, ("fork", "leaf", "bud", "twig", "leaf"))
        self.refused(at(4), check_plant, BED, PLANT + ("rose",))
        self.refused(at(0), check_plant, BED, ("Leaf",))
        self.refused(at(0), check_plant, BED, ("",))
        self.refused(at(1), check_plant, BED, ("fork", 0, "leaf"))

    def test_all_short_tuples(self):
        for bed in (BED, TWINS):
            plants = set(plants_to(bed, 7))
            beginnings = {plant[:many] for plant in plants for many in range(len(plant) + 1)}
            for many in range(4):
                for entries in product((*bed.kinds, "rose", "*"), repeat=many):
                    place = fault(bed, entries, beginnings, plants)
                    if place is None:
                        self.assertIsNone(check_plant(bed, entries))
                    else:
                        self.refused(at(place), check_plant, bed, entries)

    def test_2000_and_2001_entries(self):
        for plant in (chain(2000), ("twig",) + right_comb(999), ("twig",) + left_comb(999)):
            self.assertEqual(len(plant), 2000)
            self.assertIsNone(check_plant(BED, plant))
        for plant in (chain(2001), right_comb(1000), left_comb(1000), ("rose",) * 2001, ("leaf",) * 2001):
            self.assertEqual(len(plant), 2001)
            self.refused(KNOTS, check_plant, BED, plant)
        self.refused(KNOTS, check_plant, BED, ("rose",) * 5000)
        self.refused(at(0), check_plant, BED, ("rose",) * 2000)
        self.refused(at(2000), check_plant, BED, ("twig",) * 2000)
        self.refused(KNOTS, check_plant, BED, ("twig",) * 2001)

    def test_every_function_checks_its_plants(self):
        for number, take in enumerate(TAKERS):
            with self.subTest(number):
                self.refused(at(2), take, BED, ("fork", "leaf"))
                self.refused(at(0), take, BED, ())
                self.refused(at(1), take, BED, ("leaf", "leaf"))
                self.refused(at(0), take, BED, ("*",))
                self.refused(KNOTS, take, BED, chain(2001))
                self.refused(KNOTS, take, BED, ("rose",) * 2001)


class LargePlants(YardTest):
    def test_chain(self):
        plant = chain(2000, "bud")
        self.assertEqual(height(BED, plant), 2000)
        self.assertEqual(counted(BED, plant), (0, 1, 1999, 0))
        self.assertEqual(branches_of(BED, plant), (plant[1:],))
        self.assertEqual(paths(BED, plant), tuple([(0,) * many for many in range(2000)]))
        self.assertEqual(branch_at(BED, plant, (0,) * 1999), ("bud",))
        self.refused(nowhere((0,) * 2000), branch_at, BED, plant, (0,) * 2000)
        self.assertEqual(replaced(BED, plant, (0,) * 1999, ("leaf",)), chain(2000))
        self.assertEqual(replaced(BED, plant, (0,), ("leaf",)), ("twig", "leaf"))
        self.assertEqual(plant_key(BED, plant), (2000, (2,) * 1999 + (1,)))
        self.assertEqual(planted(BED, "twig", plant[1:]), plant)

    def test_combs(self):
        right, left = right_comb(999), left_comb(999)
        self.assertEqual((height(BED, right), height(BED, left)), (1000, 1000))
        self.assertEqual(branch_at(BED, right, (1,) * 999), ("leaf",))
        self.assertEqual(branch_at(BED, left, (0,) * 998), ("fork", "leaf", "leaf"))
        self.assertEqual(branches_of(BED, left), (left[1:1998], ("leaf",)))
        self.assertEqual(paths(BED, right)[-1], (1,) * 999)
        self.assertEqual(paths(BED, left)[-1], (1,))

    def test_results_of_2000_and_2001_knots(self):
        self.assertEqual(len(planted(BED, "fork", chain(1000), chain(999))), 2000)
        self.refused(KNOTS, planted, BED, "fork", chain(1000), chain(1000))
        self.refused(KNOTS, planted, BED, "twig", chain(2000))
        self.assertEqual(len(replaced(BED, chain(1000), (0,) * 999, chain(1001))), 2000)
        self.refused(KNOTS, replaced, BED, chain(1000), (0,) * 999, chain(1002))
        self.assertEqual(replaced(BED, chain(2000), (), chain(2000, "bud")), chain(2000, "bud"))


class Branches(YardTest):
    def test_paths(self):
        self.assertEqual(paths(BED, PLANT), ((), (0,), (0, 0), (1,)))
        self.assertEqual(paths(BED, ("leaf",)), ((),))

    def test_branch_at(self):
        self.assertEqual(branch_at(BED, PLANT, ()), PLANT)
        self.assertEqual(branch_at(BED, PLANT, (0,)), ("twig", "bud"))
        self.assertEqual(branch_at(BED, PLANT, (0, 0)), ("bud",))
        self.assertEqual(branch_at(BED, PLANT, (1,)), ("leaf",))

    def test_no_path(self):
        for path in ((2,), (-1,), (-2,), (0, 1), (0, -1), (1, 0), (0, 0, 0), (1, -1), (0, 0, -1), (10 ** 20,)):
            with self.subTest(path):
                self.refused(nowhere(path), branch_at, BED, PLANT, path)
                self.refused(nowhere(path), replaced, BED, PLANT, path, ("leaf",))
        self.refused(nowhere((0,)), branch_at, BED, ("leaf",), (0,))
        self.refused(nowhere((-1,)), branch_at, BED, ("twig", "leaf"), (-1,))

    def test_replaced(self):
        self.assertEqual(replaced(BED, PLANT, (0,), ("leaf",)), ("fork", "leaf", "leaf"))
        self.assertEqual(replaced(BED, PLANT, (), ("bud",)), ("bud",))
        self.assertEqual(replaced(BED, PLANT, (1,), ("twig", "leaf")), ("fork", "twig", "bud", "twig", "leaf"))

    def test_replaced_checks_in_order(self):
        self.refused(at(0), replaced, BED, ("rose",), (5,), ("rose", "rose"))
        self.refused(nowhere((5,)), replaced, BED, PLANT, (5,), ("rose",))
        self.refused(nowhere((5,)), replaced, BED, PLANT, (5,), chain(2001))
        self.refused(at(1), replaced, BED, PLANT, (1,), ("leaf", "leaf"))

    def test_planted(self):
        self.assertEqual(planted(BED, "bud"), ("bud",))
        self.assertEqual(planted(BED, "twig", ("leaf",)), ("twig", "leaf"))
        self.assertEqual(planted(BED, "fork", ("twig", "bud"), ("leaf",)), PLANT)
        self.assertEqual(planted(WIDE, "tri", ("bud",), ("stem", "bud"), ("knob",)),
                         ("tri", "bud", "stem", "bud", "knob"))

    def test_planted_checks_in_order(self):
        bad = ("rose",)
        self.refused(named(UnknownKind, kind="rose"), planted, BED, "rose")
        self.refused(named(UnknownKind, kind="*"), planted, BED, "*", bad, bad)
        self.refused(named(WrongBranches, wanted=2, given=1), planted, BED, "fork", bad)
        self.refused(named(WrongBranches, wanted=0, given=1), planted, BED, "leaf", ("leaf",))
        self.refused(named(WrongBranches, wanted=1, given=0), planted, BED, "twig")
        self.refused(named(WrongBranches, wanted=2, given=3), planted, BED, "fork", bad, bad, chain(2001))
        self.refused(at(0), planted, BED, "fork", bad, chain(2001))
        self.refused(KNOTS, planted, BED, "fork", chain(2001), bad)
        self.refused(at(1), planted, BED, "fork", chain(2000), ("leaf", "leaf"))

    def test_all_small_plants(self):
        for bed in (BED, WIDE):
            for plant in plants_to(bed, 5):
                self.check_parts(bed, plant)

    def check_parts(self, bed, plant):
        """Compare what is told of a plant with its nested form."""
        tree = nested(bed, plant)
        spots = spots_of(tree)
        self.assertEqual(paths(bed, plant), tuple([path for path, _ in spots]))
        self.assertEqual(branches_of(bed, plant), tuple([flat(branch) for branch in tree[1]]))
        self.assertEqual(planted(bed, plant[0], *branches_of(bed, plant)), plant)
        self.assertEqual(height(bed, plant), 1 + max([len(path) for path, _ in spots]))
        self.assertEqual(counted(bed, plant), tuple([list(plant).count(kind) for kind in bed.kinds]))
        for place, (path, branch) in enumerate(spots):
            branch = flat(branch)
            self.assertEqual(branch_at(bed, plant, path), branch)
            other = (bed.leaf,)
            wanted = plant[:place] + other + plant[place + len(branch):]
            self.assertEqual(replaced(bed, plant, path, other), wanted)
            below = bed.branches(branch[0])
            for index in (-below, -1, below, below + 1):
                if not 0 <= index < below:
                    self.refused(nowhere((*path, index)), branch_at, bed, plant, (*path, index))


class Measures(YardTest):
    def test_height(self):
        self.assertEqual(height(BED, ("leaf",)), 1)
        self.assertEqual(height(BED, ("twig", "leaf")), 2)
        self.assertEqual(height(BED, PLANT), 3)
        self.assertEqual(height(BED, ("fork", "leaf", "twig", "twig", "bud")), 4)

    def test_counted(self):
        self.assertEqual(counted(BED, PLANT), (1, 1, 1, 1))
        self.assertEqual(counted(WIDE, ("ash", "bud", "bud")), (0, 0, 0, 1, 2))
        self.assertEqual(counted(TWINS, ("leas", "leap", "leap")), (0, 2, 0, 1))

    def test_plant_key(self):
        self.assertEqual(plant_key(BED, PLANT), (4, (3, 2, 1, 0)))
        self.assertEqual(plant_key(WIDE, ("ash", "bud", "knob")), (3, (3, 4, 2)))

    def test_order_of_plants(self):
        for bed in (BED, WIDE, TWINS):
            plants = plants_to(bed, 5)
            keys = [plant_key(bed, plant) for plant in plants]
            self.assertEqual(keys, sorted(keys))
            self.assertEqual(len(set(keys)), len(keys))

    def test_the_number_of_knots_counts_first(self):
        self.assertLess(plant_key(WIDE, ("bud",)), plant_key(WIDE, ("tri", "knob", "knob", "knob")))

    def test_ranks_not_names_count(self):
        bed = Bed(("z", 0), ("a", 0), ("m", 2))
        self.assertLess(plant_key(bed, ("m", "z", "a")), plant_key(bed, ("m", "a", "z")))
