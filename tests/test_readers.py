"""Points 17 and 18: readers, their rows and their checks."""

import inspect
from itertools import product

from shearyard.beds import Bed
from shearyard.errors import InvalidPlant, InvalidReader, NoState, TooMany, UnknownKind, WrongBranches
from shearyard.readers import Reader
from tests.checking import YardTest, named
from tests.reference import (
    BED, WIDE, chain, flat, folded, left_comb, nested, plants_to, random_parts, right_comb, spots_of, step_of,
)

ODD_ROWS = (("leaf", (), 1), ("bud", (), 1), ("twig", (0,), 1), ("fork", (0, 0), 1), ("fork", (1, 1), 1))
ODD = Reader(BED, 2, ODD_ROWS, (1,))


def at(place):
    return named(InvalidReader, place=place)


class Rows(YardTest):
    def test_attributes(self):
        self.assertIs(ODD.bed, BED)
        self.assertEqual((ODD.states, ODD.marks), (2, (1,)))
        self.assertIs(type(ODD.marks), tuple)

    def test_step(self):
        self.assertEqual(ODD.step("leaf", ()), 1)
        self.assertEqual(ODD.step("twig", (0,)), 1)
        self.assertEqual(ODD.step("twig", (1,)), 0)
        self.assertEqual(ODD.step("fork", (1, 1)), 1)
        self.assertEqual(ODD.step("fork", (0, 1)), 0)

    def test_step_checks_in_order(self):
        self.refused(named(UnknownKind, kind="rose"), ODD.step, "rose", (7, 7))
        self.refused(named(UnknownKind, kind="*"), ODD.step, "*", ())
        self.refused(named(WrongBranches, wanted=2, given=1), ODD.step, "fork", (7,))
        self.refused(named(WrongBranches, wanted=0, given=1), ODD.step, "leaf", (0,))
        self.refused(named(WrongBranches, wanted=1, given=3), ODD.step, "twig", (0, 1, 9))
        self.refused(named(NoState, state=2), ODD.step, "fork", (2, -1))
        self.refused(named(NoState, state=-1), ODD.step, "fork", (-1, 2))
        self.refused(named(NoState, state=5), ODD.step, "fork", (1, 5))
        self.refused(named(NoState, state=-2), ODD.step, "twig", (-2,))

    def test_step_does_not_count_from_the_end(self):
        for state in (-1, -2, 2, 3, 10 ** 30):
            self.refused(named(NoState, state=state), ODD.step, "fork", (0, state))

    def test_otherwise_is_0_if_it_is_left_out(self):
        reader = Reader(BED, 3, (("bud", (), 2),), (0,))
        self.assertEqual((reader.step("leaf", ()), reader.step("bud", ()), reader.step("fork", (1, 2))), (0, 2, 0))
        reader = Reader(BED, 3, (("bud", (), 2),), (0,), otherwise=1)
        self.assertEqual((reader.step("leaf", ()), reader.step("bud", ()), reader.step("fork", (1, 2))), (1, 2, 1))

    def test_otherwise_is_passed_by_keyword(self):
        self.assertEqual(str(inspect.signature(Reader)), "(bed, states, rows, marks, *, otherwise=0)")
        with self.assertRaises(TypeError):
            Reader(BED, 2, (), (), 1)

    def test_state_of(self):
        self.assertEqual(ODD.state_of(("leaf",)), 1)
        self.assertEqual(ODD.state_of(("twig", "leaf")), 0)
        self.assertEqual(ODD.state_of(("fork", "leaf", "bud")), 1)

    def test_states_of(self):
        self.assertEqual(ODD.states_of(("fork", "twig", "bud", "leaf")), (0, 0, 1, 1))
        self.assertEqual(ODD.states_of(("leaf",)), (1,))

    def test_the_states_below_stand_from_left_to_right(self):
        rows = (("leaf", (), 1), ("bud", (), 2), ("fork", (1, 2), 3))
        reader = Reader(BED, 4, rows, (3,))
        self.assertEqual(reader.state_of(("fork", "leaf", "bud")), 3)
        self.assertEqual(reader.state_of(("fork", "bud", "leaf")), 0)
        rows = (("knob", (), 1), ("bud", (), 2), ("tri", (0, 1, 2), 3))
        self.assertEqual(Reader(WIDE, 4, rows, ()).state_of(("tri", "stem", "bud", "knob", "bud")), 3)

    def test_marked_plants(self):
        self.assertIs(("leaf",) in ODD, True)
        self.assertIs(("twig", "leaf") in ODD, False)
        self.assertIs(("leaf",) in Reader(BED, 1, (), ()), False)
        self.assertIs(("leaf",) in Reader(BED, 1, (), (0,)), True)

    def test_random_readers(self):
        for bed in (BED, WIDE):
            for seed in range(12):
                self.check_reader(bed, 1 + seed % 4, seed)

    def check_reader(self, bed, states, seed):
        """Compare a reader with its rows."""
        rows, marks, otherwise = random_parts(bed, states, seed)
        step = step_of(rows, otherwise)
        reader = Reader(bed, states, rows, marks, otherwise=otherwise)
        for plant in plants_to(bed, 4):
            branches = [flat(branch) for _, branch in spots_of(nested(bed, plant))]
            wanted = tuple([folded(bed, step, branch) for branch in branches])
            self.assertEqual(reader.states_of(plant), wanted)
            self.assertEqual(reader.state_of(plant), wanted[0])
            self.assertIs(plant in reader, wanted[0] in marks)
        table = tuple([
            (kind, below, step(kind, below)) for kind, many in bed.rows
            for below in product(range(states), repeat=many)
        ])
        self.assertEqual(reader.table(), table)
        for kind, below, state in table:
            self.assertEqual(reader.step(kind, below), state)

    def test_table(self):
        self.assertEqual(ODD.table(), (
            ("leaf", (), 1), ("bud", (), 1), ("twig", (0,), 1), ("twig", (1,), 0),
            ("fork", (0, 0), 1), ("fork", (0, 1), 0), ("fork", (1, 0), 0), ("fork", (1, 1), 1),
        ))

    def test_rows_in_another_order_make_the_same_reader(self):
        other = Reader(BED, 2, ODD_ROWS[::-1], (1,))
        self.assertEqual(other.table(), ODD.table())

    def test_plants_are_checked(self):
        for ask in (ODD.state_of, ODD.states_of, lambda plant: plant in ODD):
            self.refused(named(InvalidPlant, place=2), ask, ("fork", "leaf"))
            self.refused(named(InvalidPlant, place=0), ask, ())
            self.refused(named(InvalidPlant, place=1), ask, ("twig", "*"))
            self.refused(named(TooMany, what="knots", limit=2000), ask, chain(2001))
            self.refused(named(TooMany, what="knots", limit=2000), ask, ("rose",) * 2001)

    def test_large_plants(self):
        self.assertEqual(ODD.states_of(chain(2000)), (0, 1) * 1000)
        self.assertEqual(ODD.state_of(chain(2000)), 0)
        self.assertIs(chain(1999) in ODD, True)
        self.assertEqual(ODD.states_of(right_comb(999)), (1,) * 1999)
        self.assertEqual(ODD.state_of(("twig",) + left_comb(999)), 0)


class Checks(YardTest):
    def test_numbers_of_states(self):
        self.assertEqual(Reader(BED, 40, (("leaf", (), 39),), (39,)).state_of(("leaf",)), 39)
        self.assertEqual(Reader(BED, 1, (), ()).states, 1)
        for states in (41, 42, 1000, 10 ** 30):
            self.refused(named(TooMany, what="states", limit=40), Reader, BED, states, (("rose", (), 0),), (9, 1))
        for states in (0, -1, -41):
            self.refused(at(-1), Reader, BED, states, (("rose", (), 0),), (1, 0), otherwise=7)

    def test_invalid_rows(self):
        good = ("leaf", (), 1)
        for row in (
            ("rose", (), 0), ("*", (), 0), ("Leaf", (), 0), ("twig", (), 0), ("twig", (0, 0), 0), ("leaf", (0,), 0),
            ("fork", (1,), 0), ("fork", (0, 0, 0), 0), ("bud", (), 2), ("bud", (), -1), ("twig", (2,), 0),
            ("twig", (-1,), 0), ("fork", (0, 2), 0), ("fork", (-1, 0), 0), ("fork", (0, 0), 2), good, ("leaf", (), 0),
        ):
            with self.subTest(row):
                self.refused(at(1), Reader, BED, 2, (good, row), (1,))
                self.refused(at(2), Reader, BED, 2, (good, ("twig", (1,), 0), row, row), (1,))
                self.refused(at(1), Reader, BED, 2, (good, row), (5,), otherwise=9)

    def test_the_same_states_below_another_kind_are_another_row(self):
        rows = (("leaf", (), 1), ("bud", (), 1), ("fork", (0, 1), 1), ("fork", (1, 0), 1))
        self.assertEqual(Reader(BED, 2, rows, ()).step("fork", (1, 0)), 1)

    def test_the_first_invalid_row_counts(self):
        rows = (("leaf", (), 0), ("leaf", (), 3), ("rose", (), 0))
        self.refused(at(1), Reader, BED, 2, rows, ())
        self.refused(at(0), Reader, BED, 2, rows[::-1], ())
        self.refused(at(2), Reader, BED, 2, (("leaf", (), 0), ("bud", (), 0), ("leaf", (), 0)), ())

    def test_marks(self):
        self.assertEqual(Reader(BED, 3, (), (0, 1, 2)).marks, (0, 1, 2))
        self.assertEqual(Reader(BED, 3, (), ()).marks, ())
        self.assertEqual(Reader(BED, 3, (), (2,)).marks, (2,))
        for marks in ((3,), (-1,), (0, 0), (1, 0), (0, 2, 1), (0, 1, 2, 3), (-1, 0), (2, 2), (0, 10 ** 20), (1, 2, 0)):
            with self.subTest(marks):
                self.refused(at(-2), Reader, BED, 3, (), marks)
                self.refused(at(-2), Reader, BED, 3, (), marks, otherwise=3)

    def test_otherwise(self):
        for otherwise in (3, -1, 40, -3, 10 ** 20):
            self.refused(at(-3), Reader, BED, 3, (), (0, 1), otherwise=otherwise)
        self.assertEqual(Reader(BED, 3, (), (), otherwise=2).state_of(("leaf",)), 2)

    def test_a_kind_of_another_bed(self):
        self.refused(at(0), Reader, WIDE, 2, (("leaf", (), 0),), ())
        self.assertEqual(Reader(Bed(("leaf", 0)), 2, (("leaf", (), 1),), (1,)).table(), (("leaf", (), 1),))
