"""Points 49 and 50: trims, their checks, and sets of trims."""

import inspect

from shearyard.beds import Bed
from shearyard.errors import InvalidStump, InvalidTrim, OtherBed, TooMany
from shearyard.trims import Trim, Trims
from tests.checking import YardTest, named
from tests.reference import BED, WIDE

ENTRIES = named(TooMany, what="entries", limit=200)
TRIMS = named(TooMany, what="trims", limit=8)
TURNED = Bed(("bud", 0), ("leaf", 0), ("twig", 1), ("fork", 2))
SHORT = Trim(BED, ("twig", "*"), (0,))


def at(place):
    return named(InvalidTrim, place=place)


def twigs(many, *last):
    return ("twig",) * many + last


class Checks(YardTest):
    def test_attributes(self):
        trim = Trim(BED, ("fork", "*", "twig", "*"), ("twig", 1))
        self.assertIs(trim.bed, BED)
        self.assertEqual((trim.stump, trim.result), (("fork", "*", "twig", "*"), ("twig", 1)))

    def test_good_trims(self):
        for stump, result in (
            (("twig", "*"), (0,)), (("fork", "*", "*"), (1,)), (("fork", "*", "*"), (0,)), (("twig", "leaf"), ("bud",)),
            (("fork", "fork", "*", "*", "*"), ("fork", 2, 0)), (("fork", "leaf", "bud"), ("twig", "bud")),
            (("twig", "fork", "*", "*"), ("fork", 1, 0)), (("fork", "*", "twig", "*"), ("leaf",)),
            (("twig", "twig", "fork", "*", "*"), ("fork", 0, 1)), (("twig", "fork", "*", "*"), ("twig", 1)),
        ):
            self.assertEqual(Trim(BED, stump, result).result, result)

    def test_200_and_201_entries(self):
        self.assertEqual(len(Trim(BED, twigs(199, "*"), twigs(198, 0)).stump), 200)
        large = ("fork",) * 100 + ("leaf",) * 101
        self.refused(ENTRIES, Trim, BED, twigs(200, "*"), (0,))
        self.refused(ENTRIES, Trim, BED, ("twig", "*"), large)
        self.refused(ENTRIES, Trim, BED, ("rose",) * 201, ("rose",))
        self.refused(ENTRIES, Trim, BED, ("rose",), ("rose",) * 201)
        self.refused(ENTRIES, Trim, BED, ("rose",) * 2001, (0,))
        self.refused(named(InvalidStump, place=0), Trim, BED, ("rose",) * 200, ("rose",) * 200)

    def test_stumps(self):
        for stump, place in (
            ((), 0), (("twig",), 1), (("fork", "*"), 2), (("rose",), 0), (("twig", "*", "*"), 2), (("*", "*"), 1),
            (("fork", "leaf", "rose"), 2), (("twig", 0), 1), ((0,), 0),
        ):
            self.refused(named(InvalidStump, place=place), Trim, BED, stump, ("rose",))

    def test_a_lone_hole(self):
        self.refused(at(-1), Trim, BED, ("*",), (0,))
        self.refused(at(-1), Trim, BED, ("*",), ("rose",))

    def test_results(self):
        stump = ("fork", "*", "twig", "twig", "*")
        for result, place in (
            ((), 0), (("twig",), 1), (("fork", 0), 2), (("rose",), 0), (("*",), 0), ((0, 1), 1), (("leaf", 0), 1),
            ((2,), 0), ((-1,), 0), (("fork", 0, 2), 2), (("fork", 0, 0), 2), (("fork", 1, 1), 2), (("fork", 0, -2), 2),
            (("fork", 0, 0, 1), 2), (("fork", "fork", 1, 0, 1), 4), (("fork", 0, "rose"), 2), (("twig", ("x",)), 1),
            (("fork", 0, 1, 1), 3), (("leaf", 0, 0), 1), (("fork", 0, "twig"), 3),
        ):
            with self.subTest(result=result):
                self.refused(at(place), Trim, BED, stump, result)
        self.refused(at(0), Trim, BED, ("twig", "leaf"), (0,))

    def test_holes_may_be_named_in_any_order_or_not_at_all(self):
        for result in (("fork", 1, 0), ("fork", 0, 1), (1,), ("leaf",), ("fork", 1, "leaf")):
            self.assertEqual(Trim(BED, ("fork", "*", "twig", "twig", "*"), result).result, result)

    def test_fewer_knots(self):
        for stump, result in (
            (("twig", "*"), ("twig", 0)), (("twig", "*"), ("leaf",)), (("leaf",), ("bud",)),
            (("fork", "*", "*"), ("leaf",)), (("fork", "*", "*"), ("fork", 1, 0)),
            (("twig", "twig", "*"), ("fork", 0, "leaf")),
            (("twig", "leaf"), ("twig", "twig", "bud")),
        ):
            self.refused(at(-2), Trim, BED, stump, result)

    def test_a_kind_with_three_branches(self):
        trim = Trim(WIDE, ("tri", "*", "stem", "*", "*"), ("tri", 2, 0, 1))
        self.assertEqual(trim.stump, ("tri", "*", "stem", "*", "*"))
        self.refused(at(-2), Trim, WIDE, ("tri", "*", "*", "*"), ("tri", 2, 0, 1))
        self.refused(at(3), Trim, WIDE, ("stem", "tri", "*", "*", "*"), ("tri", 2, 0))

    def test_no_argument_changes(self):
        stump, result = ("fork", "*", "twig", "*"), ("twig", 1)
        Trims(BED, Trim(BED, stump, result), SHORT)
        self.assertEqual((stump, result), (("fork", "*", "twig", "*"), ("twig", 1)))


class Sets(YardTest):
    def test_attributes(self):
        other = Trim(BED, ("twig", "leaf"), ("bud",))
        trims = Trims(BED, SHORT, other, name="spring")
        self.assertIs(trims.bed, BED)
        self.assertEqual((trims.trims, trims.name, len(trims)), ((SHORT, other), "spring", 2))
        self.assertEqual((Trims(BED).trims, Trims(BED).name, len(Trims(BED))), ((), "trims", 0))
        self.assertEqual(str(inspect.signature(Trims)), "(bed, *trims, name='trims')")

    def test_8_and_9_trims(self):
        self.assertEqual(len(Trims(BED, *[SHORT] * 8)), 8)
        self.refused(TRIMS, Trims, BED, *[SHORT] * 9)

    def test_another_bed(self):
        for bed, kind in ((TURNED, "twig"), (WIDE, "stem")):
            other = Trim(bed, (kind, "*"), (0,))
            self.refused(named(OtherBed), Trims, BED, SHORT, other)
            self.refused(named(OtherBed), Trims, BED, *[SHORT] * 9, other)
            self.refused(named(OtherBed), Trims, bed, SHORT)
        self.assertEqual(len(Trims(Bed(*BED.rows), SHORT)), 1)
