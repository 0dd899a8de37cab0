"""Points 62, 63 and 69: what pictures leave open."""

from shearyard.beds import Bed
from shearyard.canon import canonical
from shearyard.comings import comes_from, unmarked
from shearyard.counting import each_in, finite, number_in
from shearyard.errors import OtherBed, TooMany
from shearyard.gardeners import Gate, Shear
from shearyard.gardens import Garden
from shearyard.lots import all_of, any_of, complement, everything, only
from shearyard.pictures import CountPicture, CrownPicture, HeightPicture, Picture, StumpPicture, WholePicture, WindowPicture
from shearyard.readers import Reader
from shearyard.viewing import left, seen, surely_seen, views
from tests.checking import YardTest, named
from tests.gardening import outcome_of, random_gardeners
from tests.reference import BED, WIDE, plants_to, random_reader, shape, tower

TURNED = Bed(("bud", 0), ("leaf", 0), ("twig", 1), ("fork", 2))
LINE = Bed(("leaf", 0), ("twig", 1))
LEAVES = Bed(("leaf", 0), ("bud", 0), ("cone", 0))
KNOTS = named(TooMany, what="knots", limit=2000)
STATES = named(TooMany, what="states", limit=40)


def some_pictures(bed):
    """Pictures that a few plants fit."""
    leaf = bed.leaves()[0]
    wide = max(bed.rows, key=lambda row: row[1])
    return [
        StumpPicture(bed, (wide[0],) + ("*",) * wide[1]), CrownPicture(bed, (leaf,)), CountPicture(bed, leaf, 2, 1),
        HeightPicture(bed, 3, slack=0), WindowPicture(bed, (wide[0], *(leaf,) * (wide[1] - 1), "*")),
        WholePicture(bed, (leaf,)), Picture(bed),
    ]


class Seen(YardTest):
    def test_plants_that_fit_all_pictures(self):
        for bed in (BED, WIDE):
            pictures = some_pictures(bed)
            for at, first in enumerate(pictures):
                for second in pictures[at:]:
                    for row in ((first,), (first, second), (second, first, pictures[2])):
                        reader = seen(bed, *row)
                        self.assertEqual(shape(reader), shape(canonical(reader)))
                        for plant in plants_to(bed, 5):
                            self.assertIs(plant in reader, all(picture.fits(plant) for picture in row))

    def test_without_a_picture(self):
        self.assertEqual(shape(seen(BED)), shape(everything(BED)))

    def test_other_beds(self):
        self.refused(named(OtherBed), seen, BED, Picture(BED), Picture(TURNED))
        self.refused(named(OtherBed), seen, BED, StumpPicture(BED, ("twig",) * 41 + ("*",)), Picture(TURNED))
        self.refused(named(OtherBed), seen, TURNED, Picture(BED))

    def test_too_many_states(self):
        self.refused(STATES, seen, BED, StumpPicture(BED, ("twig",) * 40 + ("*",)))
        counts = [CountPicture(LINE, "twig", modulus, 0) for modulus in (5, 8)]
        self.assertEqual(seen(LINE, *counts).states, 40)
        self.refused(STATES, seen, LINE, CountPicture(LINE, "twig", 6, 0), CountPicture(LINE, "twig", 7, 0))
        # Readers are joined one after another, so what the first two leave may be small.
        self.assertEqual(seen(BED, WholePicture(BED, ("bud",)), CountPicture(BED, "twig", 7, 0),
                              CountPicture(BED, "twig", 9, 0), CountPicture(BED, "twig", 8, 0)).states, 2)


class Left(YardTest):
    def test_against_listed_plants(self):
        told = {"none": 0, "one": 0, "more": 0}
        for bed in (BED, WIDE, LINE, LEAVES):
            for seed in range(150):
                reader = random_reader(bed, 1 + seed % 5, seed, 0.9)[0]
                answer = left(reader)
                told[answer[0]] += 1
                found = list(each_in(reader, 12 if bed is LINE else 7))[:2]
                if answer[0] == "none":
                    self.assertEqual((answer, found), (("none",), []))
                elif answer[0] == "one":
                    self.assertEqual((answer, finite(reader)), (("one", answer[1]), True))
                    self.assertEqual(sum([number_in(reader, many) for many in range(1, 20)]), 1)
                    self.assertIn(answer[1], reader)
                else:
                    self.assertEqual((answer[0], answer[3]), ("more", finite(reader)))
                    if len(found) == 2:
                        self.assertEqual(list(answer[1:3]), found)
                    else:
                        self.assertEqual(list(each_in(reader, len(answer[2]))), list(answer[1:3]))
        self.assertGreater(min(told.values()), 5)

    def test_one_two_and_finitely_many(self):
        plants = [("bud",), ("fork", "bud", "leaf"), ("twig", "twig", "leaf")]
        readers = [only(BED, plant) for plant in plants]
        self.assertEqual(left(complement(everything(BED))), ("none",))
        self.assertEqual(left(readers[2]), ("one", plants[2]))
        self.assertEqual(left(any_of(readers[1], readers[2])), ("more", plants[2], plants[1], True))
        self.assertEqual(left(any_of(readers[1], readers[0])), ("more", plants[0], plants[1], True))
        self.assertEqual(left(any_of(*readers)), ("more", plants[0], plants[2], True))
        self.assertEqual(left(everything(BED)), ("more", ("leaf",), ("bud",), False))
        self.assertEqual(left(everything(Bed(("leaf", 0)))), ("one", ("leaf",)))
        self.assertEqual(left(everything(LEAVES)), ("more", ("leaf",), ("bud",), True))

    def test_the_second_plant_of_one_state(self):
        # Both plants of the marked state have a branch of one state, which two plants have.
        reader = Reader(BED, 4, (("leaf", (), 1), ("bud", (), 1), ("twig", (1,), 2), ("twig", (2,), 3)), (3,))
        self.assertEqual(left(reader), ("more", ("twig", "twig", "leaf"), ("twig", "twig", "bud"), True))
        pair = Reader(BED, 4, (("leaf", (), 1), ("bud", (), 1), ("twig", (1,), 2), ("fork", (2, 1), 3)), (3,))
        self.assertEqual(
            left(pair), ("more", ("fork", "twig", "leaf", "leaf"), ("fork", "twig", "leaf", "bud"), True)
        )

    def test_large_plants(self):
        self.assertEqual(len(left(tower(2000))[1]), 2000)
        self.assertEqual(left(tower(2000))[0], "one")
        self.refused(KNOTS, left, tower(2001))
        # The leaf is small, but the second plant to return is not; with a small second one the large one is left out.
        grow = tower(2001)
        rows = [row for row in grow.table() if row[2] != grow.otherwise]
        two = Reader(BED, 40, tuple(rows), (0, *grow.marks), otherwise=grow.otherwise)
        self.refused(KNOTS, left, two)
        three = Reader(BED, 40, tuple(rows), (0, 1, *grow.marks), otherwise=grow.otherwise)
        self.assertEqual(left(three), ("more", ("leaf",), ("fork", "leaf", "leaf"), True))

    def test_a_second_plant_of_2000_and_2001_knots(self):
        tall = tower(1999)
        rows = [row for row in tall.table() if row[2] != tall.otherwise]
        last = tall.marks[0]
        for row, knots in ((("twig", (last,), last + 1), 2000), (("fork", (0, last), last + 1), 2001)):
            reader = Reader(BED, 40, (*rows, ("bud", (), last + 1), row), (last + 1,), otherwise=39)
            if knots > 2000:
                self.refused(KNOTS, left, reader)
            else:
                word, first, second, few = left(reader)
                self.assertEqual((word, first, len(second), few), ("more", ("bud",), knots, True))

    def test_states_that_no_plant_has(self):
        self.assertEqual(left(Reader(BED, 3, (), (1, 2))), ("none",))
        self.assertEqual(left(Reader(BED, 3, (("bud", (), 1), ("twig", (2,), 1)), (1, 2))), ("one", ("bud",)))


class Views(YardTest):
    def test_by_definition(self):
        for seed in range(40):
            garden = Garden(BED, *random_gardeners(BED, seed, 1 + seed % 2, False))
            pictures = [some_pictures(BED)[at] for at in (seed % 5, (seed + 2) % 5)]
            reader = views(garden, *pictures)
            self.assertEqual(shape(reader), shape(comes_from(garden, seen(BED, *pictures))))
            for plant in plants_to(BED, 4):
                out = outcome_of(garden, plant)
                self.assertIs(plant in reader, out is not None and all(one.fits(out) for one in pictures))
            self.assertEqual(shape(views(garden)), shape(comes_from(garden, everything(BED))))

    def test_surely_seen(self):
        told = {True: 0, False: 0}
        for seed in range(60):
            garden = Garden(BED, *random_gardeners(BED, seed, 1 + seed % 2, False))
            picture = some_pictures(BED)[seed % 7]
            answer = surely_seen(garden, picture)
            told[answer is None] += 1
            self.assertEqual(answer, unmarked(garden, picture.as_reader()))
            for plant in plants_to(BED, 4):
                out = outcome_of(garden, plant)
                if out is not None and not picture.fits(out):
                    self.assertEqual(answer, plant)
                    break
        self.assertGreater(min(told.values()), 3)

    def test_examples(self):
        dress = Garden(BED, Shear(BED, 1, ((0, "leaf", ("twig", "leaf")), (0, "bud", ("twig", "leaf")))))
        self.assertEqual(surely_seen(dress, CrownPicture(BED, ("twig", "leaf"))), None)
        self.assertEqual(surely_seen(dress, StumpPicture(BED, ("twig", "*"))), ("fork", "leaf", "leaf"))
        fussy = Garden(BED, Gate(only(BED, ("bud",))), *dress.gardeners)
        self.assertEqual(surely_seen(fussy, WholePicture(BED, ("twig", "leaf"))), None)
        self.assertEqual(left(views(fussy, Picture(BED))), ("one", ("bud",)))
        self.assertEqual(left(views(fussy, CountPicture(BED, "bud", 2, 1))), ("none",))

    def test_other_beds(self):
        garden = Garden(BED)
        self.refused(named(OtherBed), views, garden, Picture(BED), Picture(TURNED))
        self.refused(named(OtherBed), surely_seen, garden, StumpPicture(TURNED, ("twig",) * 41 + ("*",)))

    def test_too_many_states(self):
        self.refused(STATES, views, Garden(BED), StumpPicture(BED, ("twig",) * 40 + ("*",)))
        self.refused(STATES, surely_seen, Garden(BED), StumpPicture(BED, ("twig",) * 40 + ("*",)))
        sevens = Gate(CountPicture(BED, "twig", 7, 0).as_reader())
        self.refused(STATES, views, Garden(BED, sevens), CountPicture(BED, "twig", 6, 0))
        self.refused(STATES, surely_seen, Garden(BED, sevens), CountPicture(BED, "bud", 6, 0))
        self.assertEqual(shape(views(Garden(BED, sevens))), shape(all_of(sevens.reader)))
