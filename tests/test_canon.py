"""Points 19, 20 and 22: least plants, canonical readers, least marked plants."""

import time

from shearyard.beds import Bed
from shearyard.canon import canonical, least_in, least_plants
from shearyard.errors import TooMany
from shearyard.readers import Reader
from tests.checking import YardTest, named
from tests.reference import (
    BED, TWINS, WIDE, canonical_by_trying, chain, folded, is_closed_under, least_by_trying, plants_to, random_parts,
    random_reader, shape, step_of, tower,
)

KNOTS = named(TooMany, what="knots", limit=2000)
SMALL = Bed(("leaf", 0), ("fork", 2))
CHAINS = Bed(("twig", 1), ("leaf", 0))


def full(levels):
    """The full binary plant of SMALL."""
    return ("leaf",) if levels == 0 else ("fork",) + full(levels - 1) * 2


class LeastPlants(YardTest):
    def test_ordinary(self):
        odd = Reader(BED, 3, (("leaf", (), 1), ("bud", (), 1), ("twig", (0,), 1), ("fork", (1, 1), 1)), ())
        self.assertEqual(least_plants(odd), (("twig", "leaf"), ("leaf",), None))

    def test_the_order_of_the_states_is_kept(self):
        reader = Reader(BED, 4, (("leaf", (), 3), ("bud", (), 1), ("twig", (1,), 0)), (), otherwise=3)
        self.assertEqual(least_plants(reader), (("twig", "bud"), ("bud",), None, ("leaf",)))

    def test_by_trying(self):
        tried = 0
        for bed, knots in ((BED, 6), (WIDE, 6), (TWINS, 6)):
            for seed in range(25):
                states = 1 + seed % 4
                reader, step = random_reader(bed, states, seed)
                found = least_by_trying(bed, step, knots)
                if is_closed_under(bed, step, list(found)):
                    tried += 1
                    self.assertEqual(least_plants(reader), tuple([found.get(state) for state in range(states)]))
        self.assertGreater(tried, 50)

    def test_one_state(self):
        self.assertEqual(least_plants(Reader(WIDE, 1, (), ())), (("knob",),))

    def test_ties_of_size_are_decided_by_ranks(self):
        rows = (("leaf", (), 1), ("bud", (), 2), ("twig", (1,), 3), ("twig", (2,), 4), ("fork", (3, 2), 5),
                ("fork", (4, 1), 5), ("fork", (2, 3), 5))
        self.assertEqual(least_plants(Reader(BED, 6, rows, ()))[5], ("fork", "bud", "twig", "leaf"))
        self.assertEqual(least_plants(Reader(BED, 6, rows[:-1], ()))[5], ("fork", "twig", "leaf", "bud"))

    def test_40_states(self):
        rows = [("leaf", (), 0), ("bud", (), 39)] + [("twig", (state,), state + 1) for state in range(39)]
        plants = least_plants(Reader(BED, 40, tuple(rows), (), otherwise=39))
        self.assertEqual(plants[:39], tuple([chain(many) for many in range(1, 40)]))
        self.assertEqual(plants[39], ("bud",))

    def test_least_plants_of_2000_and_of_more_knots(self):
        for knots in (1999, 2000):
            plants = [plant for plant in least_plants(tower(knots)) if plant is not None]
            self.assertEqual(max([len(plant) for plant in plants]), knots)
        self.refused(KNOTS, least_plants, tower(2001))

    def test_doubling_beyond_all_limits(self):
        rows = tuple([("leaf", (), 0)] + [("fork", (state, state), state + 1) for state in range(38)])
        reader = Reader(SMALL, 40, rows, (38,), otherwise=39)
        begun = time.perf_counter()
        self.refused(KNOTS, least_plants, reader)
        self.refused(KNOTS, canonical, reader)
        self.refused(KNOTS, least_in, reader)
        self.assertLess(time.perf_counter() - begun, 20)

    def test_doubling_up_to_the_limit(self):
        rows = [("leaf", (), 0)] + [("fork", (state, state), state + 1) for state in range(10)]
        reader = Reader(SMALL, 12, tuple(rows[:10]), (9,), otherwise=11)
        self.assertEqual(least_plants(reader)[9], full(9))
        self.refused(KNOTS, least_plants, Reader(SMALL, 12, tuple(rows), (10,), otherwise=11))


class LeastIn(YardTest):
    def test_ordinary(self):
        reader = Reader(BED, 2, (("leaf", (), 1), ("bud", (), 1), ("twig", (0,), 1)), (0,))
        self.assertEqual(least_in(reader), ("twig", "leaf"))

    def test_nothing_and_everything(self):
        self.assertIsNone(least_in(Reader(BED, 2, (), (1,))))
        self.assertIsNone(least_in(Reader(BED, 2, (), ())))
        self.assertEqual(least_in(Reader(WIDE, 2, (), (0, 1))), ("knob",))

    def test_by_trying(self):
        for bed in (BED, WIDE):
            for seed in range(40):
                reader, _ = random_reader(bed, 1 + seed % 4, 100 + seed)
                wanted = [plant for plant in plants_to(bed, 5) if plant in reader]
                found = least_in(reader)
                if wanted:
                    self.assertEqual(found, wanted[0])
                else:
                    self.assertTrue(found is None or len(found) > 5)

    def test_plants_of_2000_and_of_2001_knots(self):
        self.assertEqual(len(least_in(tower(2000))), 2000)
        self.assertIn(least_in(tower(2000)), tower(2000))
        self.refused(KNOTS, least_in, tower(2001))

    def test_only_the_plant_to_return_counts(self):
        rows = tuple([("leaf", (), 0)] + [("fork", (state, state), state + 1) for state in range(20)])
        reader = Reader(SMALL, 22, rows, (9, 20), otherwise=21)
        self.assertEqual(least_in(reader), full(9))
        self.refused(KNOTS, least_in, Reader(SMALL, 22, rows, (10, 20), otherwise=21))
        other = Reader(SMALL, 22, rows, (10, 21), otherwise=21)
        self.assertEqual(least_in(other), ("fork", "leaf", "fork", "leaf", "leaf"))


class Canonical(YardTest):
    def test_parity(self):
        rows = (("leaf", (), 3), ("bud", (), 1), ("twig", (0,), 1), ("twig", (1,), 0), ("twig", (3,), 0),
                ("fork", (1, 1), 1), ("fork", (3, 3), 1), ("fork", (1, 3), 3), ("fork", (3, 1), 1),
                ("fork", (0, 0), 3))
        found = canonical(Reader(BED, 4, rows, (1, 3)))
        self.assertIsInstance(found, Reader)
        self.assertIs(found.bed, BED)
        self.assertEqual((found.states, found.marks), (2, (0,)))
        self.assertEqual(found.table(), (
            ("leaf", (), 0), ("bud", (), 0), ("twig", (0,), 1), ("twig", (1,), 0),
            ("fork", (0, 0), 0), ("fork", (0, 1), 1), ("fork", (1, 0), 1), ("fork", (1, 1), 0),
        ))

    def test_nothing_and_everything(self):
        for states, marks, wanted in ((3, (), ()), (3, (0, 1, 2), (0,)), (1, (0,), (0,)), (2, (1,), ())):
            found = canonical(Reader(BED, states, (), marks))
            self.assertEqual((found.states, found.marks), (1, wanted))
            self.assertEqual(found.table(), (
                ("leaf", (), 0), ("bud", (), 0), ("twig", (0,), 0), ("fork", (0, 0), 0),
            ))

    def test_numbers_by_least_plants(self):
        reader = Reader(BED, 3, (("leaf", (), 2), ("bud", (), 1), ("twig", (1,), 1), ("fork", (2, 2), 2)), (1,))
        found = canonical(reader)
        self.assertEqual([least for least in least_plants(found)], [("leaf",), ("bud",)])
        self.assertEqual(found.marks, (1,))

    def test_by_trying(self):
        tried = 0
        sizes = {}
        for bed, knots in ((BED, 6), (WIDE, 6)):
            for seed in range(60):
                rows, marks, otherwise = random_parts(bed, 1 + seed % 4, 200 + seed)
                step = step_of(rows, otherwise)
                wanted = canonical_by_trying(bed, step, lambda state: state in marks, knots)
                if wanted is not None:
                    tried += 1
                    reader = Reader(bed, 1 + seed % 4, rows, marks, otherwise=otherwise)
                    self.assertEqual(shape(canonical(reader)), wanted)
                    sizes[wanted[0]] = True
        self.assertGreater(tried, 80)
        self.assertEqual(sorted(sizes), [1, 2, 3, 4])

    def test_the_same_plants_are_marked(self):
        for seed in range(30):
            reader, step = random_reader(BED, 4, 300 + seed)
            found = canonical(reader)
            for plant in plants_to(BED, 4):
                self.assertIs(plant in found, folded(BED, step, plant) in reader.marks)

    def test_canonical_of_canonical(self):
        for seed in range(30):
            reader, _ = random_reader(WIDE, 4, 400 + seed)
            found = canonical(reader)
            self.assertEqual(shape(canonical(found)), shape(found))
            self.assertNotIn(None, least_plants(found))

    def test_renamed_states_make_the_same_canonical_reader(self):
        for seed in range(20):
            rows, marks, otherwise = random_parts(BED, 4, 500 + seed)
            names = (2, 5, 0, 3)
            renamed = [(kind, tuple([names[at] for at in below]), names[state]) for kind, below, state in rows[::-1]]
            first = Reader(BED, 4, rows, marks, otherwise=otherwise)
            second = Reader(BED, 6, tuple(renamed), tuple(sorted([names[at] for at in marks])),
                            otherwise=names[otherwise])
            self.assertEqual(shape(canonical(first)), shape(canonical(second)))

    def test_40_states(self):
        rows = [("leaf", (), 0)] + [("twig", (state,), (state + 1) % 40) for state in range(40)]
        reader = Reader(CHAINS, 40, tuple(rows), (13,))
        found = canonical(reader)
        self.assertEqual((found.states, found.marks), (40, (13,)))
        self.assertEqual(least_plants(found), tuple([("twig",) * many + ("leaf",) for many in range(40)]))

    def test_classes_that_are_told_apart_far_above(self):
        rows = [("leaf", (), 0)] + [("twig", (state,), state + 1) for state in range(38)]
        found = canonical(Reader(CHAINS, 40, tuple(rows), (38,), otherwise=39))
        self.assertEqual((found.states, found.marks), (40, (38,)))
        found = canonical(Reader(CHAINS, 40, tuple(rows), (38, 39), otherwise=39))
        self.assertEqual((found.states, found.marks), (39, (38,)))

    def test_a_class_whose_least_plant_is_too_large(self):
        self.assertEqual(len(least_plants(canonical(tower(2000)))[-1]), 2000)
        self.refused(KNOTS, canonical, tower(2001))
        rows = [("leaf", (), 0)] + [("fork", (state, state), state + 1) for state in range(10)]
        self.refused(KNOTS, canonical, Reader(SMALL, 12, tuple(rows), (10,), otherwise=11))
        self.assertEqual(canonical(Reader(SMALL, 12, tuple(rows[:10]), (9,), otherwise=11)).states, 11)

    def test_a_large_least_plant_of_a_state_does_not_matter_if_its_class_has_a_smaller_one(self):
        rows = [("leaf", (), 0)] + [("fork", (state, state), state + 1) for state in range(10)]
        reader = Reader(SMALL, 12, tuple(rows), (), otherwise=11)
        self.refused(KNOTS, least_plants, reader)
        self.assertEqual(shape(canonical(reader)), (1, (), (("leaf", (), 0), ("fork", (0, 0), 0))))

    def test_the_argument_does_not_change(self):
        reader, _ = random_reader(BED, 4, 7)
        before = (shape(reader), reader.bed.rows)
        for call in (canonical, least_plants, least_in):
            call(reader)
        self.assertEqual((shape(reader), reader.bed.rows), before)
