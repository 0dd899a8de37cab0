"""Point 16: all plants of a bed, listed and counted."""

import inspect
import time
from itertools import islice

from shearyard.beds import Bed
from shearyard.growing import number_of, plants_of, plants_upto
from shearyard.plants import check_plant, plant_key
from tests.checking import YardTest
from tests.reference import BED, TWINS, WIDE, plants_to, plants_with

LONELY = Bed(("leaf", 0))
TRIPLE = Bed(("tri", 3), ("leaf", 0))
BINARY = Bed(("leaf", 0), ("fork", 2))


class Listing(YardTest):
    def test_example(self):
        self.assertEqual(list(plants_upto(BED, 2)), [("leaf",), ("bud",), ("twig", "leaf"), ("twig", "bud")])

    def test_generators(self):
        self.assertTrue(inspect.isgenerator(plants_of(BED, 3)))
        self.assertTrue(inspect.isgenerator(plants_upto(BED, 3)))
        self.assertTrue(all([isinstance(plant, tuple) for plant in plants_upto(BED, 4)]))

    def test_all_small_plants(self):
        for bed in (BED, WIDE, TWINS, LONELY, TRIPLE, BINARY):
            for knots in range(7):
                self.assertEqual(list(plants_of(bed, knots)), plants_with(bed, knots))
                self.assertEqual(list(plants_upto(bed, knots)), plants_to(bed, knots))

    def test_numbers_below_1(self):
        for knots in (0, -1, -2, -60):
            self.assertEqual(list(plants_of(BED, knots)), [])
            self.assertEqual(list(plants_upto(BED, knots)), [])
            self.assertEqual(number_of(BED, knots), 0)

    def test_the_first_plants_of_many(self):
        begun = time.perf_counter()
        firsts = list(islice(plants_of(BED, 60), 3))
        self.assertEqual(firsts[0], ("twig",) * 59 + ("leaf",))
        self.assertEqual(firsts[1], ("twig",) * 59 + ("bud",))
        self.assertEqual(firsts[2], ("twig",) * 57 + ("fork", "leaf", "leaf"))
        many = list(islice(plants_of(WIDE, 60), 500))
        self.assertEqual(many[0], ("tri",) * 19 + ("stem", "stem") + ("knob",) * 39)
        self.assertEqual([plant_key(WIDE, plant) for plant in many],
                         sorted([plant_key(WIDE, plant) for plant in many]))
        self.assertEqual(list(islice(plants_upto(BED, 60), 100)), plants_to(BED, 6)[:100])
        self.assertEqual(next(plants_of(TRIPLE, 58)), ("tri",) * 19 + ("leaf",) * 39)
        self.assertLess(time.perf_counter() - begun, 5)

    def test_no_plant_of_a_number_of_knots(self):
        self.assertEqual(list(plants_of(LONELY, 60)), [])
        self.assertEqual(list(plants_upto(LONELY, 60)), [("leaf",)])
        self.assertEqual(list(plants_of(TRIPLE, 60)), [])
        self.assertEqual(list(plants_of(BINARY, 60)), [])
        self.assertEqual(number_of(TRIPLE, 60), 0)

    def test_two_generators_in_turn(self):
        one, two, three = plants_of(BED, 4), plants_of(BED, 4), plants_upto(BED, 60)
        wanted, first = plants_with(BED, 4), plants_to(BED, 5)
        for place in range(10):
            self.assertEqual(next(one), wanted[place])
            self.assertEqual(next(three), first[place])
            if place % 2 == 0:
                self.assertEqual(next(two), wanted[place // 2])
        self.assertEqual(list(one), wanted[10:])
        self.assertEqual(list(two), wanted[5:])

    def test_two_large_generators_in_turn(self):
        one, two = plants_of(BED, 60), plants_of(WIDE, 59)
        for _ in range(20):
            self.assertIsNone(check_plant(BED, next(one)))
            self.assertIsNone(check_plant(WIDE, next(two)))


class Counting(YardTest):
    def test_small_numbers(self):
        for bed in (BED, WIDE, TWINS, LONELY, TRIPLE, BINARY):
            for knots in range(7):
                self.assertEqual(number_of(bed, knots), len(plants_with(bed, knots)))

    def test_catalan_numbers(self):
        self.assertEqual(number_of(BINARY, 59), 1002242216651368)
        self.assertEqual(number_of(BINARY, 21), 16796)

    def test_large_numbers(self):
        # The numbers of plants by a recursion over their roots.
        counts = [0]
        for knots in range(1, 61):
            pairs = sum([counts[left] * counts[knots - 1 - left] for left in range(1, knots - 1)])
            counts.append((2 if knots == 1 else 0) + counts[knots - 1] + pairs)
            self.assertEqual(number_of(BED, knots), counts[knots])
