"""Point 23: counting and listing the plants that a reader marks."""

import inspect
import time
from itertools import islice, product

from shearyard.beds import Bed
from shearyard.counting import each_in, finite, number_in
from shearyard.growing import number_of, plants_of
from shearyard.lots import all_of, any_of, complement, everything, only
from shearyard.plants import plant_key
from shearyard.readers import Reader
from tests.checking import YardTest
from tests.reference import BED, WIDE, chain, plants_to, plants_with, random_reader, shape, tower

CHAINS = Bed(("twig", 1), ("leaf", 0))
LONELY = Bed(("leaf", 0))
TRIPLE = Bed(("tri", 3), ("leaf", 0))


def sized(bed, states, *marks):
    """A reader whose state is the number of knots, up to a greatest one."""
    rows = []
    for kind, many in bed.rows:
        for below in product(range(states), repeat=many):
            rows.append((kind, below, min(states - 1, 1 + sum(below))))
    return Reader(bed, states, tuple(rows), marks)


class Counting(YardTest):
    def test_by_trying(self):
        for bed in (BED, WIDE):
            for seed in range(30):
                reader, _ = random_reader(bed, 1 + seed % 4, seed)
                for knots in range(-1, 6):
                    marked = [plant for plant in plants_with(bed, knots) if plant in reader] if knots > 0 else []
                    self.assertEqual(number_in(reader, knots), len(marked))

    def test_numbers_below_1(self):
        for knots in (0, -1, -7, -60):
            self.assertEqual(number_in(everything(BED), knots), 0)
            self.assertEqual(list(each_in(everything(BED), knots)), [])

    def test_large_numbers(self):
        for knots in (10, 30, 59, 60):
            self.assertEqual(number_in(everything(BED), knots), number_of(BED, knots))
            self.assertEqual(number_in(everything(WIDE), knots), number_of(WIDE, knots))
            for seed in range(5):
                reader, _ = random_reader(WIDE, 4, seed)
                self.assertEqual(number_in(reader, knots) + number_in(complement(reader), knots),
                                 number_of(WIDE, knots))

    def test_two_ways_of_counting(self):
        first, second = random_reader(BED, 3, 11)[0], random_reader(BED, 3, 12)[0]
        for knots in (7, 23, 60):
            self.assertEqual(
                number_in(first, knots) + number_in(second, knots),
                number_in(all_of(first, second), knots) + number_in(any_of(first, second), knots),
            )

    def test_forks(self):
        """Plants whose forks are counted by 2: the numbers follow from those of plants without forks."""
        rows = [("twig", (state,), state) for state in range(2)]
        rows.extend([("fork", below, 1 - sum(below) % 2) for below in product(range(2), repeat=2)])
        odd = Reader(BED, 2, tuple(rows), (1,))
        # With 4 knots there are two plants without forks, and one fork takes two more leaves and a twig at 3 places.
        self.assertEqual(number_in(odd, 4), 12)
        self.assertEqual(number_in(odd, 60) + number_in(complement(odd), 60), number_of(BED, 60))

    def test_readers_of_one_plant(self):
        for plant in (("leaf",), ("bud",), ("fork", "twig", "bud", "leaf"), chain(39)):
            reader = only(BED, plant)
            self.assertEqual([many for many in range(1, 61) if number_in(reader, many)], [len(plant)])
            self.assertEqual(number_in(reader, len(plant)), 1)

    def test_the_same_whether_rows_are_left_out_or_given(self):
        for seed in range(10):
            reader, _ = random_reader(WIDE, 3, seed, 0.4)
            for otherwise in range(3):
                full = Reader(WIDE, 3, reader.table(), reader.marks, otherwise=otherwise)
                self.assertEqual(number_in(full, 40), number_in(reader, 40))
                self.assertEqual(list(islice(each_in(full, 60), 50)), list(islice(each_in(reader, 60), 50)))


class Listing(YardTest):
    def test_generator(self):
        self.assertTrue(inspect.isgenerator(each_in(everything(BED), 3)))

    def test_by_trying(self):
        for bed in (BED, WIDE):
            for seed in range(30):
                reader, _ = random_reader(bed, 1 + seed % 4, 40 + seed)
                for knots in range(6):
                    marked = [plant for plant in plants_to(bed, knots) if plant in reader]
                    self.assertEqual(list(each_in(reader, knots)), marked)

    def test_everything_and_nothing(self):
        self.assertEqual(list(each_in(everything(BED), 5)), plants_to(BED, 5))
        self.assertEqual(list(each_in(complement(everything(BED)), 60)), [])
        self.assertEqual(list(each_in(everything(LONELY), 60)), [("leaf",)])
        self.assertEqual(list(each_in(everything(TRIPLE), 6)), [("leaf",), ("tri", "leaf", "leaf", "leaf")])

    def test_readers_of_one_plant(self):
        for plant in (("leaf",), ("fork", "twig", "bud", "leaf"), chain(39)):
            self.assertEqual(list(each_in(only(BED, plant), 60)), [plant])
            self.assertEqual(list(each_in(only(BED, plant), len(plant) - 1)), [])

    def test_the_first_plants_of_many(self):
        begun = time.perf_counter()
        large = sized(BED, 40, 39)
        found = list(islice(each_in(large, 60), 200))
        self.assertEqual(found, list(islice(plants_of(BED, 39), 200)))
        found = list(islice(each_in(sized(WIDE, 12, 11), 60), 200))
        self.assertEqual(found, list(islice(plants_of(WIDE, 11), 200)))
        self.assertLess(time.perf_counter() - begun, 20)

    def test_marked_plants_that_are_rare(self):
        rows = (("leaf", (), 1), ("bud", (), 2), ("twig", (1,), 1), ("twig", (2,), 2), ("fork", (1, 2), 3))
        reader = Reader(BED, 4, rows, (3,))
        found = list(each_in(reader, 60))
        self.assertEqual(len(found), sum(range(1, 59)))
        self.assertEqual(found[-1], ("fork",) + chain(58) + ("bud",))
        self.assertEqual(found[-58], ("fork", "leaf") + chain(58, "bud"))
        self.assertEqual(found[0], ("fork", "leaf", "bud"))
        self.assertEqual([plant_key(BED, plant) for plant in found], sorted([plant_key(BED, plant) for plant in found]))

    def test_plants_of_60_knots(self):
        rows = [("leaf", (), 0)] + [("twig", (state,), (state + 1) % 30) for state in range(30)]
        reader = Reader(CHAINS, 30, tuple(rows), (29,))
        self.assertEqual(list(each_in(reader, 60)), [("twig",) * 29 + ("leaf",), ("twig",) * 59 + ("leaf",)])
        self.assertEqual(list(each_in(reader, 59)), [("twig",) * 29 + ("leaf",)])

    def test_two_generators_in_turn(self):
        reader, _ = random_reader(BED, 3, 3)
        other = sized(WIDE, 5, 1, 4)
        wanted, wanted2 = list(islice(each_in(reader, 60), 60)), list(islice(each_in(other, 60), 30))
        one, two, three = each_in(reader, 60), each_in(reader, 60), each_in(other, 60)
        for place in range(30):
            self.assertEqual(next(one), wanted[place])
            self.assertEqual(next(three), wanted2[place])
            if place % 3 == 0:
                self.assertEqual(next(two), wanted[place // 3])
        self.assertEqual([next(one) for _ in range(30)], wanted[30:])

    def test_numbers_and_lists_agree(self):
        for seed in range(6):
            reader, _ = random_reader(BED, 4, 90 + seed, 0.3)
            for knots in (7, 8):
                listed = list(each_in(reader, knots))
                self.assertEqual(len(listed), sum([number_in(reader, many) for many in range(1, knots + 1)]))

    def test_the_argument_does_not_change(self):
        reader, _ = random_reader(BED, 4, 8)
        before = (shape(reader), BED.rows)
        list(each_in(reader, 5))
        number_in(reader, 9)
        finite(reader)
        self.assertEqual((shape(reader), BED.rows), before)


class Finite(YardTest):
    def test_ordinary(self):
        self.assertIs(finite(everything(BED)), False)
        self.assertIs(finite(everything(LONELY)), True)
        self.assertIs(finite(complement(everything(BED))), True)
        self.assertIs(finite(only(BED, ("fork", "leaf", "bud"))), True)
        self.assertIs(finite(complement(only(BED, ("leaf",)))), False)
        self.assertIs(finite(sized(BED, 12, *range(1, 11))), True)
        self.assertIs(finite(sized(BED, 12, *range(1, 12))), False)

    def test_a_circle_that_leads_to_no_marked_plant(self):
        rows = (("leaf", (), 1), ("bud", (), 2), ("twig", (2,), 2), ("fork", (1, 1), 3), ("twig", (0,), 0))
        self.assertIs(finite(Reader(BED, 4, rows, (1, 3))), True)
        self.assertIs(finite(Reader(BED, 4, rows, (2,))), False)

    def test_a_circle_that_no_plant_has(self):
        rows = (("leaf", (), 1), ("twig", (2,), 2), ("fork", (2, 1), 1))
        self.assertIs(finite(Reader(BED, 3, rows, (1, 2))), True)

    def test_a_circle_beside_another_branch(self):
        rows = (("leaf", (), 1), ("twig", (1,), 1), ("bud", (), 2), ("fork", (2, 1), 3))
        self.assertIs(finite(Reader(BED, 4, rows, (3,))), False)
        self.assertIs(finite(Reader(BED, 4, rows, (2,))), True)

    def test_a_long_circle(self):
        rows = [("leaf", (), 0)] + [("twig", (state,), (state + 1) % 40) for state in range(40)]
        self.assertIs(finite(Reader(CHAINS, 40, tuple(rows), (7,))), False)
        self.assertIs(finite(Reader(CHAINS, 40, tuple(rows[:-1]) + (("twig", (39,), 39),), (7,))), True)

    def test_large_finite_lots(self):
        self.assertIs(finite(tower(2001)), True)
        self.assertIs(finite(complement(tower(2000))), False)

    def test_by_trying(self):
        """A reader with few states marks infinitely many plants if and only if it marks one within certain heights."""
        seen = {True: 0, False: 0}
        for seed in range(60):
            reader, _ = random_reader(CHAINS, 1 + seed % 4, seed)
            large = [many for many in range(5, 10) if ("twig",) * many + ("leaf",) in reader]
            seen[finite(reader)] += 1
            self.assertIs(finite(reader), not large)
        self.assertGreater(min(seen.values()), 5)
