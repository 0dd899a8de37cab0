"""Points 60 and 61: pictures of one plant."""

import time

from shearyard.beds import Bed
from shearyard.canon import canonical
from shearyard.errors import (
    InvalidPicture, InvalidPlant, InvalidStump, TooMany, UnknownKind,
)
from shearyard.lots import everything, only
from shearyard.pictures import (
    CountPicture, CrownPicture, HeightPicture, Picture, StumpPicture, WholePicture, WindowPicture,
)
from tests.checking import YardTest, named
from tests.reference import BED, WIDE, chain, flat, nested, plants_to, shape, spelled, spots_of, stumps_to, tower

LINE = Bed(("leaf", 0), ("twig", 1))
LEAVES = Bed(("leaf", 0), ("bud", 0))
KNOTS = named(TooMany, what="knots", limit=2000)
STATES = named(TooMany, what="states", limit=40)


def invalid(what):
    return named(InvalidPicture, what=what)


def starts(stump, tree):
    """Whether the nested stump begins the nested tree."""
    if stump[0] == "*":
        return True
    return stump[0] == tree[0] and all(starts(part, branch) for part, branch in zip(stump[1], tree[1]))


def tall(tree):
    return 1 + max([tall(branch) for branch in tree[1]], default=0)


def pictures(bed, entries):
    """Pictures with what fits them, by definition."""
    yield Picture(bed), lambda tree: True
    for plant in plants_to(bed, entries):
        yield WholePicture(bed, plant), lambda tree, plant=plant: flat(tree) == plant
        yield CrownPicture(bed, plant), lambda tree, plant=plant: plant in [flat(one) for _, one in spots_of(tree)]
    for stump in stumps_to(bed, entries):
        yield StumpPicture(bed, stump), lambda tree, stump=nested(bed, stump): starts(stump, tree)
        yield WindowPicture(bed, stump), lambda tree, stump=nested(bed, stump): any(
            starts(stump, one) for _, one in spots_of(tree)
        )
    for kind in bed.kinds:
        for modulus, rest in ((2, 0), (2, 1), (3, 2), (9, 8), (9, 0)):
            yield CountPicture(bed, kind, modulus, rest), lambda tree, kind=kind, modulus=modulus, rest=rest: (
                flat(tree).count(kind) % modulus == rest
            )
    for height in (1, 2, 3, 4, 30):
        for slack in range(4):
            yield HeightPicture(bed, height, slack=slack), lambda tree, height=height, slack=slack: (
                abs(tall(tree) - height) <= slack
            )


class Fits(YardTest):
    def test_by_definition(self):
        for bed, entries, knots in ((BED, 3, 6), (WIDE, 3, 5), (LINE, 4, 9), (LEAVES, 1, 3)):
            trees = [(plant, nested(bed, plant)) for plant in plants_to(bed, knots)]
            for picture, wanted in pictures(bed, entries):
                reader = picture.as_reader()
                self.assertEqual(shape(reader), shape(canonical(reader)))
                for plant, tree in trees:
                    with self.subTest(picture.caption(), plant=plant):
                        self.assertIs(picture.fits(plant), wanted(tree))
                        self.assertIs(plant in reader, wanted(tree))

    def test_heights_and_counts_of_tall_plants(self):
        for height in (1, 29, 30):
            for slack in range(4):
                picture = HeightPicture(BED, height, slack=slack)
                reader = picture.as_reader()
                for knots in range(1, 40):
                    for plant in (chain(knots), ("fork", "bud") + chain(knots - 1)):
                        if knots > 1 or plant[0] != "fork":
                            fits = abs(knots - height) <= slack
                            self.assertEqual((picture.fits(plant), plant in reader), (fits, fits))
        for modulus in range(2, 10):
            for rest in range(modulus):
                picture = CountPicture(BED, "twig", modulus, rest)
                reader = picture.as_reader()
                self.assertEqual(reader.states, modulus)
                for knots in (1, 2, 9, 10, 18, 2000):
                    fits = (knots - 1) % modulus == rest
                    self.assertEqual((picture.fits(chain(knots)), chain(knots) in reader), (fits, fits))

    def test_found_at_the_root_in_the_middle_and_nowhere(self):
        crown = CrownPicture(BED, ("twig", "bud"))
        window = WindowPicture(BED, ("twig", "*"))
        for plant, in_crown, in_window in (
            (("twig", "bud"), True, True), (("fork", "leaf", "twig", "twig", "bud"), True, True),
            (("fork", "bud", "leaf"), False, False), (("twig", "leaf"), False, True),
            (("fork", "twig", "leaf", "twig", "bud"), True, True), (("twig", "twig", "leaf"), False, True),
        ):
            self.assertEqual((crown.fits(plant), window.fits(plant)), (in_crown, in_window))
            self.assertEqual((plant in crown.as_reader(), plant in window.as_reader()), (in_crown, in_window))

    def test_a_lone_hole_fits_every_plant(self):
        for picture in (StumpPicture(BED, ("*",)), WindowPicture(BED, ("*",)), Picture(BED)):
            self.assertEqual(shape(picture.as_reader()), shape(everything(BED)))
            self.assertIs(picture.fits(chain(2000)), True)

    def test_large_plants(self):
        start = time.time()
        for picture, fits in (
            (Picture(BED), True), (WholePicture(BED, chain(2000)), True), (WholePicture(BED, chain(2000, "bud")), False),
            (StumpPicture(BED, ("twig",) * 1999 + ("*",)), True), (CrownPicture(BED, chain(1000)), True),
            (CrownPicture(BED, chain(1000, "bud")), False), (WindowPicture(BED, ("twig",) * 1000 + ("*",)), True),
            (WindowPicture(BED, ("twig",) * 1000 + ("bud",)), False), (CountPicture(BED, "twig", 9, 1), True),
            (HeightPicture(BED, 30, slack=3), False),
        ):
            self.assertIs(picture.fits(chain(2000)), fits)
            self.refused(KNOTS, picture.fits, chain(2001))
            self.refused(named(InvalidPlant, place=1), picture.fits, ("twig",))
            self.refused(named(InvalidPlant, place=0), picture.fits, ("*",))
        self.assertLess(time.time() - start, 10)


class Captions(YardTest):
    def test_texts(self):
        plant = ("fork", "twig", "bud", "leaf")
        for picture, caption in (
            (Picture(BED), "any"), (WholePicture(BED, plant), "whole fork(twig(bud),leaf)"),
            (StumpPicture(BED, ("fork", "*", "bud")), "stump fork(*,bud)"), (CrownPicture(BED, ("bud",)), "crown bud"),
            (WindowPicture(BED, ("*",)), "window *"), (CountPicture(BED, "twig", 9, 0), "count twig 0 of 9"),
            (HeightPicture(BED, 3), "height 3 or 1 off"), (HeightPicture(BED, 30, slack=0), "height 30"),
            (HeightPicture(BED, 1, slack=3), "height 1 or 3 off"),
        ):
            self.assertEqual(picture.caption(), caption)
        for stump in stumps_to(BED, 4):
            self.assertEqual(WindowPicture(BED, stump).caption(), f"window {spelled(nested(BED, stump))}")

    def test_attributes_and_classes(self):
        for picture in (
            WholePicture(BED, ("bud",)), StumpPicture(BED, ("*",)), CrownPicture(BED, ("bud",)),
            WindowPicture(BED, ("*",)), CountPicture(BED, "bud", 2, 0), HeightPicture(BED, 3),
        ):
            self.assertIs(picture.bed, BED)
            self.assertEqual(picture.__class__.__bases__, (Picture,))
        self.assertIs(Picture(BED).bed, BED)


class Checks(YardTest):
    def test_plants_and_stumps(self):
        for picture in (WholePicture, CrownPicture):
            self.refused(KNOTS, picture, BED, ("rose",) * 2001)
            self.refused(named(InvalidPlant, place=1), picture, BED, ("fork", "*", "*"))
            self.refused(named(InvalidPlant, place=2), picture, BED, ("fork", "bud"))
            self.assertIs(picture(BED, chain(2000)).fits(chain(2000)), True)
        for picture in (StumpPicture, WindowPicture):
            self.refused(KNOTS, picture, BED, ("rose",) * 2001)
            self.refused(named(InvalidStump, place=1), picture, BED, ("fork", "rose", "*"))
            self.refused(named(InvalidStump, place=2), picture, BED, ("fork", "*"))
            self.refused(named(InvalidStump, place=0), picture, BED, ())

    def test_counts(self):
        for kind in ("rose", "*", "", "Bud"):
            self.refused(named(UnknownKind, kind=kind), CountPicture, BED, kind, 1, -1)
        for modulus in (1, 10, 0, -3, 10 ** 30):
            self.refused(invalid("modulus"), CountPicture, BED, "bud", modulus, -1)
        for modulus, rest in ((2, 2), (2, -1), (9, 9), (9, 10 ** 30)):
            self.refused(invalid("rest"), CountPicture, BED, "bud", modulus, rest)

    def test_heights(self):
        for height in (0, 31, -1, 10 ** 30):
            self.refused(invalid("height"), HeightPicture, BED, height, slack=4)
        for slack in (-1, 4, 10 ** 30):
            self.refused(invalid("slack"), HeightPicture, BED, 30, slack=slack)


class JointStates(YardTest):
    def test_forty_and_forty_one(self):
        for make, many in (
            # The branches of the plant, and "none".
            (lambda many: WholePicture(LINE, ("twig",) * (many - 2) + ("leaf",)), 40),
            # The branches of the plant but the whole, "none" (which taller plants would have) and "found".
            (lambda many: CrownPicture(BED, chain(many - 1)), 40),
            # From 0 to all of the twigs.
            (lambda many: StumpPicture(LINE, ("twig",) * (many - 1) + ("*",)), 40),
            (lambda many: WindowPicture(LINE, ("twig",) * (many - 1) + ("*",)), 40),
        ):
            self.assertEqual(make(many).as_reader().states, many)
            self.refused(STATES, make(many + 1).as_reader)

    def test_a_crown_on_a_line_is_found_above_it_everywhere(self):
        # In this bed every plant is a branch of the crown or has found it, so that there is no "none".
        self.assertEqual(CrownPicture(LINE, ("twig",) * 39 + ("leaf",)).as_reader().states, 40)
        self.refused(STATES, CrownPicture(LINE, ("twig",) * 40 + ("leaf",)).as_reader)

    def test_joint_states_count_before_equal_ones_are_merged(self):
        # Leaves and forks of both leaves in any combination begin many sets of branches, of which few matter.
        stump = ("fork", "fork", "leaf", "*", "fork", "*", "bud")
        self.assertEqual(StumpPicture(BED, stump).as_reader().states, 7)
        wide = ("twig",) * 39 + ("*",)
        self.refused(STATES, StumpPicture(BED, ("fork", "bud") + wide).as_reader)
        self.refused(STATES, WindowPicture(BED, ("fork", *wide, *("twig",) * 20 + ("leaf",))).as_reader)

    def test_branches_that_are_equal_count_once(self):
        full = ("leaf",)
        for _ in range(10):
            full = ("fork", *full, *full)
        self.assertEqual(len(full), 2047)
        small = full[1:1024]
        self.assertEqual(WholePicture(BED, small).as_reader().states, 11)
        self.assertEqual(CrownPicture(BED, small).as_reader().states, 11)
        self.assertEqual(shape(WholePicture(BED, small).as_reader()), shape(only(BED, small)))

    def test_plants_of_more_than_2000_knots_do_not_matter(self):
        # The canonical reader of a picture has small least plants; those of other readers may be too large.
        self.refused(KNOTS, canonical, tower(2001))
        self.assertEqual(StumpPicture(BED, ("twig",) * 38 + ("fork", "*", "*")).as_reader().states, 40)
