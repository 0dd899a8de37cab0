"""Point 25: closed tables as certificates."""

import random
import time
from itertools import product

from shearyard.beds import Bed
from shearyard.closed import closed_pairs, is_closed
from shearyard.errors import TooMany
from shearyard.lots import any_of, complement, escaped, everything, only
from shearyard.readers import Reader
from tests.checking import YardTest, named
from tests.reference import (
    BED, WIDE, folded, is_closed_under, joint_step, least_by_trying, plants_to, random_parts, random_reader, shape,
    step_of,
)

ODD = Reader(BED, 2, (
    ("leaf", (), 1), ("bud", (), 1), ("twig", (0,), 1), ("fork", (0, 0), 1), ("fork", (1, 1), 1)), (1,))


def valid(first, second, steps, pairs):
    """What the point says of a closed table, word by word."""
    bed = first.bed
    table = set(pairs)
    for one, two in table:
        if not (0 <= one < first.states and 0 <= two < second.states):
            return False
        if one in first.marks and two not in second.marks:
            return False
    return is_closed_under(bed, joint_step(*steps), sorted(table))


class Pairs(YardTest):
    def test_example(self):
        self.assertEqual(closed_pairs(ODD, ODD), ((0, 0), (1, 1)))

    def test_by_trying(self):
        tried = 0
        for bed in (BED, WIDE):
            for seed in range(25):
                first, step = random_reader(bed, 1 + seed % 3, seed)
                second, step2 = random_reader(bed, 3, 100 + seed)
                found = least_by_trying(bed, joint_step(step, step2), 5)
                if is_closed_under(bed, joint_step(step, step2), list(found)):
                    tried += 1
                    self.assertEqual(closed_pairs(first, second), tuple(sorted(found)))
        self.assertGreater(tried, 30)

    def test_every_plant_has_one_of_the_pairs(self):
        first, step = random_reader(BED, 4, 1)
        second, step2 = random_reader(BED, 4, 2)
        pairs = closed_pairs(first, second)
        for plant in plants_to(BED, 5):
            self.assertIn(folded(BED, joint_step(step, step2), plant), pairs)

    def test_40_pairs(self):
        bed = Bed(("leaf", 0), ("twig", 1))
        five, eight, nine = [
            Reader(bed, many, tuple([("twig", (state,), (state + 1) % many) for state in range(many)]), ())
            for many in (5, 8, 9)
        ]
        self.assertEqual(closed_pairs(five, eight), tuple(product(range(5), range(8))))
        self.refused(named(TooMany, what="states", limit=40), closed_pairs, five, nine)
        # A table of more than 40 pairs is a certificate like any other one.
        self.assertIs(is_closed(five, nine, tuple(product(range(5), range(9)))), True)


class Certificates(YardTest):
    def test_ordinary(self):
        self.assertIs(is_closed(ODD, ODD, ((0, 0), (1, 1))), True)
        self.assertIs(is_closed(ODD, ODD, ((1, 1), (0, 0))), True)
        self.assertIs(is_closed(ODD, ODD, ((1, 1), (0, 0), (1, 1))), True)
        self.assertIs(is_closed(ODD, ODD, ((1, 1),)), False)
        self.assertIs(is_closed(ODD, ODD, ((0, 0),)), False)
        self.assertIs(is_closed(ODD, ODD, ()), False)
        self.assertIs(is_closed(ODD, ODD, ((0, 0), (1, 1), (1, 0))), False)

    def test_pairs_that_are_no_states(self):
        for pair in ((2, 0), (0, 2), (-1, 0), (0, -1), (-1, -1), (2, 2), (40, 1), (0, 10 ** 20)):
            with self.subTest(pair):
                self.assertIs(is_closed(ODD, ODD, ((0, 0), (1, 1), pair)), False)
                self.assertIs(is_closed(ODD, ODD, (pair, (0, 0), (1, 1))), False)

    def test_the_readers_may_have_different_numbers_of_states(self):
        reader, _ = random_reader(BED, 4, 6)
        self.assertIs(is_closed(reader, everything(BED), ((0, 0), (1, 0), (2, 0), (3, 0))), True)
        self.assertIs(is_closed(reader, everything(BED), ((0, 0), (1, 0), (2, 0), (3, 0), (0, 1))), False)
        nothing = complement(everything(BED))
        self.assertIs(is_closed(nothing, reader, ((0, 0), (0, 1), (0, 2), (0, 3))), True)
        self.assertIs(is_closed(nothing, reader, ((0, 0), (0, 1), (0, 2), (0, 4))), False)

    def test_more_pairs_than_necessary(self):
        either = any_of(ODD, only(BED, ("twig", "bud")))
        pairs = closed_pairs(ODD, either)
        self.assertIs(is_closed(ODD, either, pairs), True)
        self.assertIs(is_closed(either, ODD, tuple([(two, one) for one, two in pairs])), False)
        for extra in product(range(2), range(either.states)):
            wanted = valid(ODD, either, [ODD.step, either.step], pairs + (extra,))
            self.assertIs(is_closed(ODD, either, pairs + (extra,)), wanted)

    def test_marks_count(self):
        first = Reader(BED, 2, (("leaf", (), 1),), (1,))
        for marks, wanted in (((), False), ((0,), False), ((1,), True), ((0, 1), True)):
            second = Reader(BED, 2, (("leaf", (), 1),), marks)
            self.assertIs(is_closed(first, second, ((0, 0), (1, 1))), wanted)

    def test_every_place_of_a_knot_counts(self):
        """A table that fails for one kind and one row of pairs below only."""
        for place in range(3):
            below = tuple([1 if at == place else 0 for at in range(3)])
            rows = (("bud", (), 1), ("tri", below, 2))
            first = Reader(WIDE, 3, rows, (2,))
            second = Reader(WIDE, 3, (("bud", (), 1),), (2,))
            self.assertIs(is_closed(first, second, ((0, 0), (1, 1))), False)
            self.assertIs(is_closed(first, second, ((0, 0), (1, 1), (2, 0))), False)
            self.assertIs(is_closed(first, first, ((0, 0), (1, 1), (2, 2))), True)

    def test_random_tables(self):
        seen = {True: 0, False: 0}
        dice = random.Random(4)
        for bed in (BED, WIDE):
            for seed in range(120):
                first, step = random_reader(bed, 1 + seed % 3, seed)
                rows, marks, otherwise = random_parts(bed, 3, 300 + seed)
                marks = (0, 1, 2) if seed % 2 == 0 else marks
                second = Reader(bed, 3, rows, marks, otherwise=otherwise)
                pairs = self.some_pairs(first, second, dice)
                wanted = valid(first, second, [step, step_of(rows, otherwise)], pairs)
                seen[wanted] += 1
                self.assertIs(is_closed(first, second, pairs), wanted)
        self.assertGreater(min(seen.values()), 30)

    def some_pairs(self, first, second, dice):
        """The pairs that plants have, with some more of them, or with one of them left out, in any order."""
        pairs = list(closed_pairs(first, second))
        if dice.random() < 0.3:
            pairs.pop(dice.randrange(len(pairs)))
        others = list(product(range(first.states), range(second.states)))
        pairs.extend(dice.sample(others, dice.randrange(min(4, len(others)) + 1)))
        dice.shuffle(pairs)
        return tuple(pairs)

    def test_the_certificate_proves_what_it_says(self):
        for seed in range(60):
            first, _ = random_reader(BED, 3, seed)
            second, _ = random_reader(BED, 3, 500 + seed, 0.3)
            self.assertIs(is_closed(first, second, closed_pairs(first, second)), escaped(first, second) is None)

    def test_large_tables(self):
        begun = time.perf_counter()
        rows = [("tri", below, sum(below) % 40) for below in product(range(40), repeat=3)]
        first = Reader(WIDE, 40, tuple(rows), (), otherwise=1)
        pairs = tuple(product(range(40), repeat=2))
        self.assertIs(is_closed(first, first, pairs), True)
        self.assertIs(is_closed(first, first, pairs[:-1]), False)
        self.assertIs(is_closed(first, first, tuple([(state, state) for state in range(40)])), True)
        self.assertLess(time.perf_counter() - begun, 30)

    def test_the_arguments_do_not_change(self):
        before = shape(ODD)
        is_closed(ODD, ODD, ((0, 0), (1, 1)))
        self.assertEqual(shape(ODD), before)
