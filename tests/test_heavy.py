"""Point 74: the greatest weight of marked plants."""

import random
import time

from shearyard.beds import Bed
from shearyard.canon import canonical
from shearyard.counting import finite
from shearyard.errors import InvalidWeighing, NoPlant, TooMany
from shearyard.heavy import heaviest
from shearyard.lots import any_of, complement, everything, only
from shearyard.pictures import CountPicture, HeightPicture, StumpPicture
from shearyard.readers import Reader
from tests.checking import YardTest, named
from tests.reference import BED, WIDE, chain, plants_to, random_reader, right_comb, tower

FORKS = Bed(("leaf", 0), ("fork", 2))
LINE = Bed(("leaf", 0), ("twig", 1))
KNOTS = named(TooMany, what="knots", limit=2000)
NONE = named(NoPlant)
INVALID = named(InvalidWeighing)
HUGE = 10 ** 40


def weight_of(bed, weights, plant):
    return sum([weight * plant.count(kind) for weight, kind in zip(weights, bed.kinds)])


def heaviest_of(bed, weights, plants):
    """The greatest weight and the first plant that has it."""
    best = max([weight_of(bed, weights, plant) for plant in plants])
    return best, next(plant for plant in plants if weight_of(bed, weights, plant) == best)


class Heaviest(YardTest):
    def test_against_all_small_plants(self):
        told = {True: 0, False: 0}
        for bed, low, high in ((BED, 5, 9), (WIDE, 5, 9), (FORKS, 9, 15), (LINE, 8, 16)):
            small, large = plants_to(bed, low), plants_to(bed, high)
            for seed in range(40):
                reader = random_reader(bed, 1 + seed % 3, seed, 0.9)[0]
                dice = random.Random(seed)
                weights = tuple([dice.randrange(-3, 3) for _ in bed.kinds])
                found = [plant for plant in large if plant in reader]
                if not found:
                    self.refused(NONE, heaviest, reader, weights)
                    continue
                answer = heaviest(reader, weights)
                wanted = heaviest_of(bed, weights, found)
                told[answer is None] += 1
                if answer is not None:
                    self.assertEqual(answer, wanted)
                else:
                    # Without a greatest weight, larger plants are always heavier sooner or later.
                    fewer = [plant for plant in small if plant in reader]
                    self.assertTrue(not fewer or wanted[0] > heaviest_of(bed, weights, fewer)[0])
        self.assertGreater(min(told.values()), 30)

    def test_finitely_many_plants(self):
        for bed in (BED, WIDE):
            height = HeightPicture(bed, 2, slack=1 if bed is BED else 0).as_reader()
            self.assertIs(finite(height), True)
            plants = [plant for plant in plants_to(bed, 7) if plant in height]
            dice = random.Random(7)
            for _ in range(60):
                weights = tuple([dice.randrange(-5, 6) * 2 ** (90 * dice.randrange(2)) for _ in bed.kinds])
                self.assertEqual(heaviest(height, weights), heaviest_of(bed, weights, plants))

    def test_all_weights_0_and_negative_ones(self):
        reader = CountPicture(BED, "twig", 9, 4).as_reader()
        self.assertEqual(heaviest(reader, (0, 0, 0, 0)), (0, chain(5)))
        self.assertEqual(heaviest(reader, (-1, -1, -1, -1)), (-5, chain(5)))
        self.assertEqual(heaviest(reader, (-2, -1, -1, -1)), (-5, chain(5, "bud")))
        self.assertEqual(heaviest(reader, (-1, -1, 0, -1)), (-1, chain(5)))
        self.assertEqual(heaviest(everything(BED), (0, 0, 0, 0)), (0, ("leaf",)))

    def test_no_greatest_weight(self):
        self.assertEqual(heaviest(everything(BED), (0, 0, 1, 0)), None)
        self.assertEqual(heaviest(everything(BED), (-1, -5, 0, 2)), None)
        self.assertEqual(heaviest(everything(BED), (-1, -5, 0, 1)), (-1, ("leaf",)))
        self.assertEqual(heaviest(everything(BED), (1, -5, 0, -1)), (1, ("leaf",)))
        # A circle that no marked plant has does not count.
        no_twigs = Reader(BED, 2, (("leaf", (), 0), ("bud", (), 0), ("fork", (0, 0), 0)), (0,), otherwise=1)
        self.assertEqual(heaviest(no_twigs, (-1, -1, 1, 1)), (-1, ("leaf",)))
        self.assertEqual(heaviest(no_twigs, (0, -1, 1, 1)), None)

    def test_a_circle_that_gains_late(self):
        # Forty twigs in a row lose 39 and gain 40, so that only long plants show it.
        rows = tuple([("twig", (at,), at + 1) for at in range(39)] + [("twig", (39,), 0), ("leaf", (), 0)])
        reader = Reader(LINE, 40, rows, (0,))
        self.assertEqual(heaviest(reader, (5, 0)), (5, ("leaf",)))
        self.assertEqual(heaviest(reader, (5, 1)), None)
        bed = Bed(("leaf", 0), ("twig", 1), ("stem", 1))
        rows = tuple([("twig", (at,), at + 1) for at in range(38)] + [("stem", (38,), 0), ("leaf", (), 0)])
        ring = Reader(bed, 40, rows, (0,), otherwise=39)
        self.assertEqual(heaviest(ring, (0, -1, 38)), (0, ("leaf",)))
        self.assertEqual(heaviest(ring, (0, -1, 39)), None)
        self.assertEqual(heaviest(ring, (0, -HUGE, 38 * HUGE + 1)), None)
        self.assertEqual(heaviest(ring, (7, -HUGE, 38 * HUGE - 1)), (7, ("leaf",)))

    def test_the_least_of_the_heaviest_plants(self):
        reader = any_of(only(BED, ("twig", "twig", "bud")), only(BED, ("fork", "bud", "leaf")), only(BED, ("twig", "bud")))
        self.assertEqual(heaviest(reader, (0, 1, 0, 0)), (1, ("twig", "bud")))
        self.assertEqual(heaviest(reader, (0, 1, 1, 2)), (3, ("twig", "twig", "bud")))
        self.assertEqual(heaviest(reader, (1, 1, 1, 2)), (4, ("fork", "bud", "leaf")))
        # The least plant of a state is not the heaviest one.
        self.assertEqual(heaviest(StumpPicture(BED, ("fork", "*", "twig", "*")).as_reader(), (-2, -1, -1, -3)),
                         (-6, ("fork", "bud", "twig", "bud")))

    def test_weights_beyond_64_bits(self):
        reader = HeightPicture(BED, 4, slack=0).as_reader()
        best, plant = heaviest(reader, (HUGE, HUGE + 1, -1, -(HUGE // 2)))
        self.assertEqual(plant, ("fork",) * 3 + ("bud", "bud", "fork", "bud", "bud") + ("fork",) + ("fork", "bud", "bud") * 2)
        self.assertEqual(best, 8 * (HUGE + 1) - 7 * (HUGE // 2))


class Large(YardTest):
    def test_plants_of_2000_and_2001_knots(self):
        self.assertEqual(heaviest(tower(1999), (0, 0, 0, 1))[0], 999)
        weight, plant = heaviest(tower(2000), (1, 1, 1, 1))
        self.assertEqual((weight, len(plant)), (2000, 2000))
        self.refused(KNOTS, heaviest, tower(2001), (1, 1, 1, 1))

    def test_a_heaviest_plant_that_is_too_large(self):
        # The least marked plant is small, the heaviest one has 2 ** 12 - 1 knots.
        tall = HeightPicture(BED, 12, slack=0).as_reader()
        self.assertEqual(heaviest(tall, (-1, -1, -1, -1)), (-12, chain(12)))
        self.refused(KNOTS, heaviest, tall, (1, 1, 0, 0))
        self.assertEqual(heaviest(tall, (1, 1, 0, -1)), (1, chain(12)))
        self.assertEqual(len(heaviest(HeightPicture(BED, 10, slack=0).as_reader(), (1, 1, 1, 1))[1]), 1023)
        # Whether there is a greatest weight does not depend on the size of the plant.
        self.assertEqual(heaviest(complement(tall), (1, 1, 0, 0)), None)

    def test_forty_states(self):
        start = time.time()
        rows = tuple([("twig", (at,), (at + 1) % 40) for at in range(40)] + [
            ("fork", (one, two), (one + two + 1) % 40) for one in range(40) for two in range(40)
        ])
        count = Reader(BED, 40, rows, (13,))
        self.assertEqual(heaviest(count, (-1, -1, -1, -1)), (-14, chain(14)))
        self.assertEqual(heaviest(count, (-1, -1, -2, 1)), (-1, right_comb(13)))
        self.assertEqual(heaviest(count, (1, 0, -1, 0)), None)
        wide = random_reader(WIDE, 40, 3, 0.9)[0]
        self.assertEqual(heaviest(wide, (-1,) * 5)[0], -len(heaviest(wide, (-1,) * 5)[1]))
        self.assertLess(time.time() - start, 20)


class Checks(YardTest):
    def test_the_number_of_weights(self):
        for weights in ((), (1, 2, 3), (1, 2, 3, 4, 5)):
            self.refused(INVALID, heaviest, everything(BED), weights)
            self.refused(INVALID, heaviest, complement(everything(BED)), weights)
            self.refused(INVALID, heaviest, tower(2001), weights)
        self.refused(NONE, heaviest, complement(everything(BED)), (1, 2, 3, 4))

    def test_nothing_is_changed(self):
        reader = random_reader(BED, 4, 5)[0]
        before = repr(vars(reader))
        self.assertEqual(heaviest(reader, (-1, -2, -3, -4)), heaviest(canonical(reader), (-1, -2, -3, -4)))
        self.assertEqual(repr(vars(reader)), before)
