"""Points 6, 7 and 8: beds, their written form, the same beds."""

import re

from shearyard.beds import Bed
from shearyard.errors import InvalidBed, InvalidText, TooMany, UnknownKind, YardError
from tests.checking import YardTest, named
from tests.reference import BED, TWINS, WIDE

EIGHT = tuple([(letter, 0) for letter in "abcdefgh"])


def at(place):
    return named(InvalidBed, place=place)


class Kinds(YardTest):
    def test_attributes(self):
        pairs = (("leaf", 0), ("bud", 0), ("twig", 1), ("fork", 2))
        self.assertEqual(BED.rows, pairs)
        self.assertEqual(BED.kinds, ("leaf", "bud", "twig", "fork"))
        self.assertIs(type(BED.rows), tuple)
        self.assertIs(type(BED.kinds), tuple)

    def test_branches_and_ranks(self):
        self.assertEqual([BED.branches(kind) for kind in BED.kinds], [0, 0, 1, 2])
        self.assertEqual([BED.rank(kind) for kind in BED.kinds], [0, 1, 2, 3])
        self.assertEqual([WIDE.branches(kind) for kind in WIDE.kinds], [3, 1, 0, 2, 0])
        self.assertEqual(WIDE.rank("ash"), 3)

    def test_unknown_kinds(self):
        for kind in ("rose", "", "Leaf", "lea", "leaff", "*", "leaf/0"):
            with self.subTest(kind):
                self.refused(named(UnknownKind, kind=kind), BED.branches, kind)
                self.refused(named(UnknownKind, kind=kind), BED.rank, kind)

    def test_leaf_kinds(self):
        self.assertEqual((BED.leaf, BED.leaves()), ("leaf", ("leaf", "bud")))
        self.assertEqual((WIDE.leaf, WIDE.leaves()), ("knob", ("knob", "bud")))
        self.assertEqual(Bed(("a", 3), ("b", 0)).leaves(), ("b",))

    def test_leaf_is_a_property(self):
        self.assertIsInstance(Bed.leaf, property)

    def test_eight_pairs_and_nine(self):
        self.assertEqual(Bed(*EIGHT).rows, EIGHT)
        self.refused(named(TooMany, what="kinds", limit=8), Bed, *EIGHT, ("i", 0))

    def test_too_many_pairs_come_first(self):
        self.refused(named(TooMany, what="kinds", limit=8), Bed, *([("", 9)] * 9))
        self.refused(named(TooMany, what="kinds", limit=8), Bed, *([("a", 1)] * 12))

    def test_numbers_of_branches(self):
        for many in range(4):
            self.assertEqual(Bed(("a", many), ("b", 0)).branches("a"), many)
        for many in (-1, 4, 5, 10, -3, 10 ** 30):
            with self.subTest(many):
                self.refused(at(0), Bed, ("a", many), ("b", 0))
                self.refused(at(1), Bed, ("b", 0), ("a", many))

    def test_names(self):
        for name in ("a", "z", "az", "abcdefgh", "zzzzzzzz"):
            self.assertEqual(Bed((name, 0)).kinds, (name,))
        for name in ("", "abcdefghi", "A", "aB", "a1", "a b", " a", "a ", "a_b", "*", "a/0", "-", "a\n", "{", "`"):
            with self.subTest(name):
                self.refused(at(0), Bed, (name, 0))
                self.refused(at(2), Bed, ("x", 0), ("y", 1), (name, 0))

    def test_names_that_occur_twice(self):
        self.refused(at(2), Bed, ("leaf", 0), ("fork", 2), ("leaf", 1))
        self.refused(at(1), Bed, ("leaf", 0), ("leaf", 0))
        self.refused(at(3), Bed, ("a", 0), ("b", 0), ("c", 0), ("b", 0))

    def test_names_that_differ_in_one_letter(self):
        self.assertEqual(TWINS.kinds, ("leaf", "leap", "reap", "leas"))
        self.assertEqual(Bed(("abcdefgh", 0), ("abcdefgi", 1), ("abcdefg", 2)).rank("abcdefg"), 2)

    def test_the_first_fault_counts(self):
        self.refused(at(1), Bed, ("a", 0), ("a", 7), ("", 0))
        self.refused(at(0), Bed, ("a", 5), ("a", 5))
        self.refused(at(2), Bed, ("a", 1), ("b", 1), ("B", 1), ("c", 4))

    def test_no_leaf_kind(self):
        self.refused(at(-1), Bed)
        self.refused(at(-1), Bed, ("a", 1))
        self.refused(at(-1), Bed, ("a", 1), ("b", 2), ("c", 3))
        self.refused(at(1), Bed, ("a", 1), ("b", 4))


class Texts(YardTest):
    def test_written(self):
        self.assertEqual(BED.written(), "leaf/0 bud/0 twig/1 fork/2")
        self.assertEqual(Bed(("a", 0)).written(), "a/0")
        self.assertEqual(WIDE.written(), "tri/3 stem/1 knob/0 ash/2 bud/0")

    def test_read(self):
        self.assertEqual(Bed.read("leaf/0 fork/2").rows, (("leaf", 0), ("fork", 2)))
        for bed in (BED, WIDE, TWINS, Bed(*EIGHT)):
            self.assertIsInstance(Bed.read(bed.written()), Bed)
            self.assertEqual(Bed.read(bed.written()).rows, bed.rows)

    def test_invalid_texts(self):
        for text in (
            "", " ", "  ", "leaf", "leaf/", "/0", "/", "leaf/0 ", " leaf/0", "leaf/0  bud/0", "leaf/00", "leaf/10",
            "leaf/-1", "leaf/a", "Leaf/0", "leaf1/0", "leaf//0", "leaf/0/0", "leaf /0", "leaf/0\n", "leaf/0\tbud/0",
            "leaf/0,bud/0", "*/0", "leaf/+", "leaf/0 bud", "bud leaf/0",
        ):
            with self.subTest(text):
                self.refused(named(InvalidText, text=text), Bed.read, text)

    def test_pieces_are_read_before_the_pairs_are_checked(self):
        self.refused(named(InvalidText, text="leaf/9 /0"), Bed.read, "leaf/9 /0")
        nine = " ".join(["a/0"] * 9)
        self.refused(named(TooMany, what="kinds", limit=8), Bed.read, nine)
        for bad in (nine + " ", nine + " A/0", "a/x " + nine):
            self.refused(named(InvalidText, text=bad), Bed.read, bad)

    def test_pairs_are_checked(self):
        self.refused(at(0), Bed.read, "leaf/4")
        self.refused(at(1), Bed.read, "leaf/0 abcdefghi/0")
        self.refused(at(2), Bed.read, "a/0 b/1 a/2")
        self.refused(at(-1), Bed.read, "a/1 b/2")
        self.assertEqual(Bed.read("abcdefgh/0 b/3").rows, (("abcdefgh", 0), ("b", 3)))

    def test_one_character_changed(self):
        text = "leaf/0 fork/2"
        for place in range(len(text) + 1):
            for new in ("", "a", "z", "A", "/", " ", "0", "3", "4", "-", "*", "\n"):
                for end in (place, place + 1):
                    self.check_text(text[:place] + new + text[end:])

    def check_text(self, text):
        """Compare reading with what the point says of the pieces."""
        pieces = text.split(" ")
        if not all(re.fullmatch(r"[a-z]+/[0-9]", piece) and "\n" not in piece for piece in pieces):
            self.refused(named(InvalidText, text=text), Bed.read, text)
            return
        pairs = [(piece[:-2], int(piece[-1])) for piece in pieces]
        try:
            wanted = Bed(*pairs).rows
        except YardError as error:
            self.refused((error.__class__, dict(vars(error))), Bed.read, text)
        else:
            self.assertEqual(Bed.read(text).rows, wanted)
            self.assertEqual(Bed.read(text).written(), text)


class SameBeds(YardTest):
    def test_same(self):
        self.assertIs(BED.same(BED), True)
        self.assertIs(BED.same(Bed(*BED.rows)), True)
        self.assertIs(BED.same(Bed.read(BED.written())), True)

    def test_not_the_same(self):
        for pairs in (
            (("bud", 0), ("leaf", 0), ("twig", 1), ("fork", 2)),
            (("leaf", 0), ("bud", 0), ("twig", 1)),
            (("leaf", 0), ("bud", 0), ("twig", 1), ("fork", 2), ("x", 0)),
            (("leaf", 0), ("bud", 0), ("twig", 1), ("fork", 3)),
            (("leaf", 0), ("bud", 0), ("twig", 1), ("forl", 2)),
            (("leaf", 0), ("bud", 0), ("fork", 2), ("twig", 1)),
        ):
            with self.subTest(pairs):
                self.assertIs(BED.same(Bed(*pairs)), False)
                self.assertIs(Bed(*pairs).same(BED), False)
