"""Point 15: the written form of stumps and plants, and reading it."""

from shearyard.errors import InvalidStump, InvalidText, TooMany
from shearyard.texts import read_plant, read_stump, written
from tests.checking import YardTest, named
from tests.reference import BED, TWINS, WIDE, chain, left_comb, nested, plants_to, right_comb, spelled, stumps_to

KNOTS = named(TooMany, what="knots", limit=2000)


def bad(text):
    return named(InvalidText, text=text)


class Writing(YardTest):
    def test_examples(self):
        self.assertEqual(written(BED, ("fork", "twig", "bud", "*")), "fork(twig(bud),*)")
        self.assertEqual(written(BED, ("*",)), "*")
        self.assertEqual(written(BED, ("leaf",)), "leaf")
        self.assertEqual(written(WIDE, ("tri", "bud", "*", "stem", "bud")), "tri(bud,*,stem(bud))")

    def test_all_small_stumps(self):
        for bed in (BED, WIDE, TWINS):
            for stump in stumps_to(bed, 5):
                self.assertEqual(written(bed, stump), spelled(nested(bed, stump)))

    def test_checks(self):
        self.refused(named(InvalidStump, place=2), written, BED, ("fork", "*"))
        self.refused(named(InvalidStump, place=0), written, BED, ())
        self.refused(KNOTS, written, BED, chain(2001))
        self.refused(KNOTS, written, BED, ("rose",) * 2001)


class Reading(YardTest):
    def test_examples(self):
        self.assertEqual(read_stump(BED, "fork(twig(bud),*)"), ("fork", "twig", "bud", "*"))
        self.assertEqual(read_plant(BED, "fork(twig(bud),leaf)"), ("fork", "twig", "bud", "leaf"))
        self.assertEqual(read_stump(BED, "*"), ("*",))
        self.assertEqual(read_stump(BED, "bud"), ("bud",))

    def test_what_is_written_can_be_read(self):
        for bed in (BED, WIDE, TWINS):
            for stump in stumps_to(bed, 5):
                self.assertEqual(read_stump(bed, written(bed, stump)), stump)
                if "*" in stump:
                    self.refused(bad(written(bed, stump)), read_plant, bed, written(bed, stump))
            for plant in plants_to(bed, 5):
                self.assertEqual(read_plant(bed, written(bed, plant)), plant)

    def test_invalid_texts(self):
        for text in (
            "", " ", "()", "(", ")", ",", "leaf()", "leaf(", "leaf)", "leaf,", ",leaf", "leaf leaf", "leaf,leaf",
            "twig", "twig()", "twig(leaf", "twig leaf", "twig(leaf))", "twig((leaf))", "(leaf)", "fork(leaf)",
            "fork(leaf,)", "fork(,leaf)", "fork(leaf,,leaf)", "fork(leaf,leaf,leaf)", "fork(leaf;leaf)",
            "fork(leaf, leaf)", " leaf", "leaf ", "leaf\n", "fork (leaf,leaf)", "fork(leaf leaf)", "fork)leaf,leaf(",
            "rose", "Leaf", "twig(rose)", "twig(leaf)leaf", "**", "*(leaf)", "*,*", "fork,leaf,leaf", "lea f",
            "fork(leaf\tleaf)", "fork(leaf(leaf))", "twig(twig(leaf)", "leaf/0", "fork(twig(bud,leaf))",
        ):
            with self.subTest(text):
                self.refused(bad(text), read_stump, BED, text)
                self.refused(bad(text), read_plant, BED, text)

    def test_one_character_changed(self):
        texts = {spelled(nested(TWINS, stump)): stump for stump in stumps_to(TWINS, 5)}
        for text in ("leas(reap(leaf),*)", "leas(leap,leas(leaf,leap))", "reap(*)", "*", "leaf"):
            for place in range(len(text) + 1):
                for new in ("", "(", ")", ",", "*", " ", "p", "f", "s", "l", "\n"):
                    for end in (place, place + 1):
                        self.check_text(texts, text[:place] + new + text[end:])

    def check_text(self, texts, text):
        """Compare reading with the written forms of all small stumps."""
        if text not in texts:
            self.refused(bad(text), read_stump, TWINS, text)
        else:
            self.assertEqual(read_stump(TWINS, text), texts[text])
        if text not in texts or "*" in text:
            self.refused(bad(text), read_plant, TWINS, text)
        else:
            self.assertEqual(read_plant(TWINS, text), texts[text])

    def test_2000_and_2001_entries(self):
        for plant in (chain(2000), ("twig",) + right_comb(999), ("twig",) + left_comb(999)):
            self.assertEqual(read_plant(BED, written(BED, plant)), plant)
            self.assertEqual(read_stump(BED, written(BED, plant)), plant)
        text = "twig(" * 2000 + "leaf" + ")" * 2000
        self.refused(KNOTS, read_plant, BED, text)
        self.refused(KNOTS, read_stump, BED, text)
        self.refused(KNOTS, read_stump, BED, text.replace("leaf", "*"))
        self.refused(KNOTS, read_plant, BED, "fork(leaf," * 1000 + "leaf" + ")" * 1000)

    def test_an_invalid_text_is_never_too_large(self):
        text = "twig(" * 2000 + "leaf" + ")" * 2000
        for other in (text[:-1], text + ")", text.replace("leaf", "rose"), text + " "):
            self.refused(bad(other), read_stump, BED, other)
            self.refused(bad(other), read_plant, BED, other)
        self.refused(bad(text.replace("leaf", "*")), read_plant, BED, text.replace("leaf", "*"))

    def test_plants_of_another_bed(self):
        self.refused(bad("tri(bud,bud,bud)"), read_plant, BED, "tri(bud,bud,bud)")
        self.refused(bad("twig(leaf)"), read_stump, TWINS, "twig(leaf)")
        self.assertEqual(read_plant(TWINS, "reap(leaf)"), ("reap", "leaf"))
