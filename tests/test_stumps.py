"""Points 13 and 14: stumps, what begins what, parts, common stumps, unions."""

from itertools import product

from shearyard.errors import InvalidStump, TooMany, WrongBranches
from shearyard.stumps import HOLE, begins, check_stump, common, filled, holes, parts, stump_key, united
from tests.checking import YardTest, named
from tests.reference import (
    BED, WIDE, chain, flat, left_comb, nested, plants_to, right_comb, spots_of, stumps_to,
)

KNOTS = named(TooMany, what="knots", limit=2000)
STUMP = ("fork", "twig", "*", "*")
LONE = ("*",)
# Each takes a stump first; the other arguments are valid whatever the stump is.
TAKERS = (
    check_stump, stump_key, holes, filled, common,
    lambda bed, stump: begins(bed, stump, LONE),
    lambda bed, stump: begins(bed, LONE, stump),
    lambda bed, stump: parts(bed, stump, LONE),
    lambda bed, stump: parts(bed, LONE, stump),
    lambda bed, stump: common(bed, LONE, LONE, stump),
    lambda bed, stump: united(bed, stump, LONE),
    lambda bed, stump: united(bed, ("bud",), stump),
    lambda bed, stump: filled(bed, LONE, stump),
    lambda bed, stump: filled(bed, STUMP, ("leaf",), stump),
)


def at(place):
    return named(InvalidStump, place=place)


def parts_of(stump, other):
    """The parts of one nested stump in another one, or None."""
    if stump[0] == "*":
        return [flat(other)]
    if stump[0] != other[0]:
        return None
    found = []
    for branch, branch2 in zip(stump[1], other[1]):
        more = parts_of(branch, branch2)
        if more is None:
            return None
        found.extend(more)
    return found


def common_of(*stumps):
    """The common stump of nested stumps."""
    roots = {stump[0] for stump in stumps}
    if len(roots) > 1:
        return ("*", [])
    return (stumps[0][0], [common_of(*below) for below in zip(*[stump[1] for stump in stumps])])


def union_of(first, second):
    """The union of two nested stumps, or None."""
    if first[0] == "*":
        return second
    if second[0] == "*":
        return first
    if first[0] != second[0]:
        return None
    below = [union_of(branch, branch2) for branch, branch2 in zip(first[1], second[1])]
    return None if None in below else (first[0], below)


class Checks(YardTest):
    def test_the_hole(self):
        self.assertEqual(HOLE, "*")

    def test_valid_stumps(self):
        for stump in (LONE, ("leaf",), ("twig", "*"), STUMP, ("fork", "*", "bud"), chain(2000), chain(2000, "*")):
            self.assertIsNone(check_stump(BED, stump))
        for plant in plants_to(WIDE, 4):
            self.assertIsNone(check_stump(WIDE, plant))

    def test_least_places(self):
        self.refused(at(0), check_stump, BED, ())
        self.refused(at(0), check_stump, BED, ("rose",))
        self.refused(at(0), check_stump, BED, ("**",))
        self.refused(at(1), check_stump, BED, ("*", "*"))
        self.refused(at(1), check_stump, BED, ("*", "leaf"))
        self.refused(at(2), check_stump, BED, ("fork", "*"))
        self.refused(at(3), check_stump, BED, ("fork", "*", "*", "*"))
        self.refused(at(2), check_stump, BED, ("fork", "*", "rose"))
        self.refused(at(1), check_stump, BED, ("twig", 0))

    def test_all_short_tuples(self):
        stumps = set(stumps_to(BED, 7))
        beginnings = {stump[:many] for stump in stumps for many in range(len(stump) + 1)}
        for many in range(4):
            for entries in product((*BED.kinds, "*", "rose"), repeat=many):
                if entries in stumps:
                    self.assertIsNone(check_stump(BED, entries))
                    continue
                places = [place for place in range(many) if entries[:place + 1] not in beginnings]
                self.refused(at(min([*places, many])), check_stump, BED, entries)

    def test_2000_and_2001_entries(self):
        self.assertIsNone(check_stump(BED, ("twig",) + right_comb(999)))
        for stump in (chain(2001), chain(2001, "*"), right_comb(1000), ("*",) * 2001, ("rose",) * 2001):
            self.refused(KNOTS, check_stump, BED, stump)
        self.refused(at(2000), check_stump, BED, ("twig",) * 2000)
        self.refused(at(1), check_stump, BED, ("*",) * 2000)

    def test_every_function_checks_its_stumps(self):
        for number, take in enumerate(TAKERS):
            with self.subTest(number):
                self.refused(at(2), take, BED, ("fork", "*"))
                self.refused(at(0), take, BED, ())
                self.refused(at(1), take, BED, ("*", "*"))
                self.refused(KNOTS, take, BED, chain(2001, "*"))
                self.refused(KNOTS, take, BED, ("rose",) * 2001)

    def test_the_first_argument_is_checked_first(self):
        for take in (begins, parts, common, united):
            self.refused(at(0), take, BED, ("rose",), chain(2001))
            self.refused(KNOTS, take, BED, chain(2001), ("rose",))
            self.refused(at(1), take, BED, ("bud",), ("leaf", "leaf"))
        self.refused(at(1), common, BED, LONE, ("leaf", "leaf"), ("rose",))


class Keys(YardTest):
    def test_stump_key(self):
        self.assertEqual(stump_key(BED, LONE), (1, (4,)))
        self.assertEqual(stump_key(BED, STUMP), (4, (3, 2, 4, 4)))
        self.assertEqual(stump_key(WIDE, ("ash", "*", "bud")), (3, (3, 5, 4)))

    def test_order_of_stumps(self):
        for bed in (BED, WIDE):
            keys = [stump_key(bed, stump) for stump in stumps_to(bed, 5)]
            self.assertEqual(keys, sorted(keys))
            self.assertEqual(len(set(keys)), len(keys))


class Holes(YardTest):
    def test_holes(self):
        self.assertEqual(holes(BED, LONE), ((),))
        self.assertEqual(holes(BED, ("leaf",)), ())
        self.assertEqual(holes(BED, STUMP), ((0, 0), (1,)))
        self.assertEqual(holes(BED, chain(2000, "*")), ((0,) * 1999,))

    def test_filled(self):
        self.assertEqual(filled(BED, STUMP, ("bud",), ("leaf",)), ("fork", "twig", "bud", "leaf"))
        self.assertEqual(filled(BED, STUMP, ("twig", "*"), LONE), ("fork", "twig", "twig", "*", "*"))
        self.assertEqual(filled(BED, LONE, STUMP), STUMP)
        self.assertEqual(filled(BED, ("bud",)), ("bud",))

    def test_wrong_numbers_of_pieces(self):
        bad = ("rose",)
        self.refused(named(WrongBranches, wanted=2, given=1), filled, BED, STUMP, bad)
        self.refused(named(WrongBranches, wanted=2, given=3), filled, BED, STUMP, bad, bad, bad)
        self.refused(named(WrongBranches, wanted=0, given=1), filled, BED, ("leaf",), chain(2001))
        self.refused(named(WrongBranches, wanted=1, given=0), filled, BED, LONE)
        self.refused(at(0), filled, BED, bad, bad)

    def test_pieces_are_checked_in_order(self):
        self.refused(at(0), filled, BED, STUMP, ("rose",), chain(2001))
        self.refused(KNOTS, filled, BED, STUMP, chain(2001), ("rose",))
        self.refused(at(1), filled, BED, STUMP, chain(2000), ("leaf", "leaf"))

    def test_results_of_2000_and_2001_entries(self):
        self.assertEqual(len(filled(BED, ("fork", "*", "*"), chain(1000), chain(999, "*"))), 2000)
        self.refused(KNOTS, filled, BED, ("fork", "*", "*"), chain(1000), chain(1000, "*"))
        self.assertEqual(filled(BED, chain(1000, "*"), chain(1001, "*")), chain(2000, "*"))
        self.refused(KNOTS, filled, BED, chain(1000, "*"), chain(1002, "*"))

    def test_all_small_stumps(self):
        for stump in stumps_to(WIDE, 4):
            spots = spots_of(nested(WIDE, stump))
            wanted = tuple([path for path, branch in spots if branch[0] == "*"])
            self.assertEqual(holes(WIDE, stump), wanted)
            pieces = [("stem", "bud"), ("*",), ("knob",)][:len(wanted)]
            whole = filled(WIDE, stump, *pieces)
            self.assertEqual(parts(WIDE, stump, whole), tuple(pieces))


class Beginning(YardTest):
    def test_begins(self):
        self.assertIs(begins(BED, LONE, ("leaf",)), True)
        self.assertIs(begins(BED, LONE, LONE), True)
        self.assertIs(begins(BED, ("leaf",), LONE), False)
        self.assertIs(begins(BED, STUMP, ("fork", "twig", "bud", "leaf")), True)
        self.assertIs(begins(BED, STUMP, ("fork", "bud", "leaf")), False)
        self.assertIs(begins(BED, STUMP, STUMP), True)

    def test_parts(self):
        self.assertEqual(parts(BED, STUMP, ("fork", "twig", "twig", "bud", "leaf")), (("twig", "bud"), ("leaf",)))
        self.assertEqual(parts(BED, ("leaf",), ("leaf",)), ())
        self.assertIsNone(parts(BED, ("leaf",), ("bud",)))
        self.assertEqual(parts(BED, LONE, STUMP), (STUMP,))
        self.assertEqual(parts(BED, STUMP, STUMP), (LONE, LONE))
        self.assertIsNone(parts(BED, ("twig", "leaf"), ("twig", "*")))

    def test_common(self):
        self.assertEqual(common(BED, ("fork", "bud", "leaf"), ("fork", "twig", "bud", "leaf")), ("fork", "*", "leaf"))
        self.assertEqual(common(BED, STUMP), STUMP)
        self.assertEqual(common(BED, LONE), LONE)
        self.assertEqual(common(BED, ("leaf",), ("bud",)), LONE)
        self.assertEqual(common(BED, STUMP, STUMP, LONE), LONE)
        self.assertEqual(
            common(BED, ("fork", "leaf", "bud"), ("fork", "leaf", "leaf"), ("fork", "twig", "bud", "bud")),
            ("fork", "*", "*"),
        )

    def test_united(self):
        self.assertEqual(united(BED, ("fork", "*", "leaf"), ("fork", "twig", "*", "*")), ("fork", "twig", "*", "leaf"))
        self.assertEqual(united(BED, LONE, LONE), LONE)
        self.assertEqual(united(BED, LONE, STUMP), STUMP)
        self.assertIsNone(united(BED, ("fork", "leaf", "*"), ("fork", "bud", "*")))
        self.assertIsNone(united(BED, ("leaf",), ("twig", "*")))

    def test_all_pairs_of_small_stumps(self):
        for bed, entries in ((BED, 4), (WIDE, 4)):
            stumps = [(stump, nested(bed, stump)) for stump in stumps_to(bed, entries)]
            for (first, tree), (second, tree2) in product(stumps, repeat=2):
                found = parts_of(tree, tree2)
                self.assertEqual(parts(bed, first, second), None if found is None else tuple(found))
                self.assertIs(begins(bed, first, second), found is not None)
                self.assertEqual(common(bed, first, second), flat(common_of(tree, tree2)))
                union = union_of(tree, tree2)
                self.assertEqual(united(bed, first, second), None if union is None else flat(union))

    def test_three_stumps(self):
        stumps = [(stump, nested(BED, stump)) for stump in stumps_to(BED, 3)]
        for chosen in product(stumps, repeat=3):
            wanted = flat(common_of(*[tree for _, tree in chosen]))
            self.assertEqual(common(BED, *[stump for stump, _ in chosen]), wanted)

    def test_large_stumps(self):
        self.assertEqual(parts(BED, chain(2000, "*"), chain(2000)), (("leaf",),))
        self.assertEqual(common(BED, chain(2000), chain(2000, "bud")), chain(2000, "*"))
        self.assertEqual(united(BED, chain(2000, "*"), chain(2000)), chain(2000))
        self.assertEqual(parts(BED, ("fork", "*", "*"), left_comb(999)), (left_comb(998), ("leaf",)))
        self.assertIs(begins(BED, right_comb(999), right_comb(999)), True)

    def test_unions_of_2000_and_2001_entries(self):
        first = ("fork", "*") + chain(1000)
        self.assertEqual(len(united(BED, first, ("fork",) + chain(999) + ("*",))), 2000)
        self.refused(KNOTS, united, BED, first, ("fork",) + chain(1000) + ("*",))
        # There is no union, so that its number of entries does not matter.
        self.assertIsNone(united(BED, first, ("fork",) + chain(1000) + ("leaf",)))
