"""Points 21, 22 and 24: readers put together from others, plants that set readers apart; the beds of points 5 and 8."""

from itertools import product

from shearyard.beds import Bed
from shearyard.canon import canonical, least_in, least_plants
from shearyard.closed import closed_pairs, is_closed
from shearyard.errors import InvalidPlant, OtherBed, TooMany
from shearyard.lots import all_of, any_of, apart, complement, escaped, everything, only, without
from shearyard.readers import Reader
from tests.checking import YardTest, named
from tests.reference import (
    BED, TWINS, WIDE, canonical_by_trying, chain, folded, is_closed_under, joint_step, least_by_trying, plants_to,
    random_parts, random_reader, shape, step_of, tower,
)

KNOTS = named(TooMany, what="knots", limit=2000)
STATES = named(TooMany, what="states", limit=40)
CHAINS = Bed(("twig", 1), ("leaf", 0))
TURNED = Bed(("bud", 0), ("leaf", 0), ("twig", 1), ("fork", 2))


def counting(modulus, *marks, bed=CHAINS):
    """A reader whose state is the number of twigs on the first path by this modulus, as far as a fork."""
    rows = [("leaf", (), 0)] + [("twig", (state,), (state + 1) % modulus) for state in range(modulus)]
    return Reader(bed, modulus, tuple(rows), marks)


def sized_up(bed):
    """A reader that marks all plants of more than one knot."""
    return Reader(bed, 2, tuple([(kind, (), 0) for kind in bed.leaves()]), (1,), otherwise=1)


def twigs(many):
    """The plant of CHAINS with that many twigs."""
    return ("twig",) * many + ("leaf",)


class Joining(YardTest):
    def test_two_readers_by_trying(self):
        for bed in (BED, WIDE):
            for seed in range(25):
                first, _ = random_reader(bed, 1 + seed % 3, seed)
                second, _ = random_reader(bed, 2, 1000 + seed)
                for plant in plants_to(bed, 4):
                    one, two = plant in first, plant in second
                    self.assertIs(plant in all_of(first, second), one and two)
                    self.assertIs(plant in any_of(first, second), one or two)
                    self.assertIs(plant in without(first, second), one and not two)
                    self.assertIs(plant in complement(first), not one)

    def test_canonical_results_by_trying(self):
        tried = 0
        for bed, knots in ((BED, 6), (TWINS, 6)):
            for seed in range(40):
                parts = [random_parts(bed, 1 + seed % 3, seed), random_parts(bed, 2, 2000 + seed)]
                readers = [
                    Reader(bed, states, rows, marks, otherwise=otherwise)
                    for states, (rows, marks, otherwise) in zip((1 + seed % 3, 2), parts)
                ]
                tried += self.check_pair(bed, readers, [step_of(rows, other) for rows, _, other in parts], knots)
        self.assertGreater(tried, 50)

    def check_pair(self, bed, readers, steps, knots):
        """Compare the four ways of joining two readers with what is found by trying; 0 if too few plants were tried."""
        first, second = readers
        step = joint_step(*steps)

        def marks(joint):
            return [state in reader.marks for state, reader in zip(joint, readers)]

        for found, marked in (
            (all_of(first, second), lambda joint: all(marks(joint))),
            (any_of(first, second), lambda joint: any(marks(joint))),
            (without(first, second), lambda joint: marks(joint) == [True, False]),
            (complement(first), lambda joint: not marks(joint)[0]),
            (complement(second), lambda joint: not marks(joint)[1]),
        ):
            wanted = canonical_by_trying(bed, step, marked, knots)
            if wanted is None:
                return 0
            self.assertEqual(shape(found), wanted)
        return 1

    def test_three_readers(self):
        for seed in range(15):
            readers = [random_reader(BED, 2, seed + more)[0] for more in (0, 3000, 4000)]
            both, either = all_of(*readers), any_of(*readers)
            for plant in plants_to(BED, 4):
                flags = [plant in reader for reader in readers]
                self.assertIs(plant in both, all(flags))
                self.assertIs(plant in either, any(flags))

    def test_one_reader_alone(self):
        for seed in range(20):
            reader, _ = random_reader(WIDE, 4, seed)
            self.assertEqual(shape(all_of(reader)), shape(canonical(reader)))
            self.assertEqual(shape(any_of(reader)), shape(canonical(reader)))

    def test_the_same_reader_twice(self):
        for seed in range(10):
            reader, _ = random_reader(BED, 4, 30 + seed)
            self.assertEqual(shape(all_of(reader, reader)), shape(canonical(reader)))
            self.assertEqual(shape(any_of(reader, reader)), shape(canonical(reader)))
            self.assertEqual(without(reader, reader).marks, ())
            self.assertEqual(shape(complement(complement(reader))), shape(canonical(reader)))

    def test_nothing_and_everything(self):
        reader, _ = random_reader(BED, 4, 5)
        nothing = complement(everything(BED))
        self.assertEqual((nothing.states, nothing.marks), (1, ()))
        self.assertEqual(shape(complement(nothing)), shape(everything(BED)))
        self.assertEqual(shape(all_of(reader, nothing)), shape(nothing))
        self.assertEqual(shape(any_of(reader, everything(BED))), shape(everything(BED)))
        self.assertEqual(shape(all_of(reader, everything(BED))), shape(canonical(reader)))
        self.assertEqual(shape(without(everything(BED), reader)), shape(complement(reader)))

    def test_40_and_more_joint_states(self):
        found = all_of(counting(5, 4), counting(8, 7))
        self.assertEqual((found.states, found.marks), (40, (39,)))
        self.assertEqual(least_plants(found)[39], twigs(39))
        self.assertEqual(without(counting(8, 0), counting(5, 1, 2, 3, 4)).states, 40)
        self.assertEqual(all_of(counting(40, 7), counting(8, 7), counting(20, 7)).states, 40)
        for call in (all_of, any_of, without, apart, escaped, closed_pairs):
            self.refused(STATES, call, counting(6, 5), counting(7, 6))
            self.refused(STATES, call, counting(40, 5), counting(3, 1))
            self.refused(STATES, call, counting(6), counting(7))

    def test_41_joint_states(self):
        """One plant of its own and 40 remainders make 41 joint states, although the answer needs few of them."""
        bed = Bed(("twig", 1), ("leaf", 0), ("bud", 0))
        rows = [("leaf", (), 0), ("bud", (), 0)] + [("twig", (state,), (state + 1) % 40) for state in range(40)]
        remainder = Reader(bed, 40, tuple(rows), (3,))
        bud = Reader(bed, 2, (("bud", (), 1),), (1,))
        for call in (all_of, any_of, without, apart, escaped, closed_pairs):
            self.refused(STATES, call, remainder, bud)
            self.refused(STATES, call, bud, remainder)
        rows = [("leaf", (), 0), ("bud", (), 0)] + [("twig", (state,), (state + 1) % 39) for state in range(39)]
        remainder = Reader(bed, 39, tuple(rows), (3,))
        self.assertEqual(len(closed_pairs(remainder, bud)), 40)
        self.assertEqual(least_in(any_of(remainder, bud)), ("bud",))

    def test_only_states_that_plants_have_count(self):
        rows = tuple([("twig", (state,), state) for state in range(40)])
        first = Reader(CHAINS, 40, rows, (3,), otherwise=3)
        self.assertEqual(shape(all_of(first, first, counting(40, 2))), shape(counting(40, 2)))

    def test_large_least_plants(self):
        self.assertEqual(shape(all_of(tower(2000), everything(BED))), shape(canonical(tower(2000))))
        self.refused(KNOTS, all_of, tower(2001), sized_up(BED))
        self.refused(KNOTS, any_of, tower(2001), complement(everything(BED)))
        # The large plant and the bud are exchangeable, so that their class has a small least plant.
        self.assertEqual(least_in(any_of(tower(2001), only(BED, ("bud",)))), ("bud",))
        self.refused(KNOTS, without, tower(2001), only(BED, ("bud",)))
        self.assertEqual(all_of(tower(2001), only(BED, ("bud",))).marks, ())
        self.refused(KNOTS, complement, tower(2001))
        self.assertEqual(complement(tower(2000)).marks, tuple(range(16)))

    def test_too_many_states_come_before_too_many_knots(self):
        many = counting(6, 5, bed=BED), counting(7, 6, bed=BED)
        self.refused(STATES, all_of, tower(2001), *many)
        self.refused(STATES, any_of, *many, tower(2001))


class Apart(YardTest):
    def test_by_trying(self):
        for bed in (BED, WIDE):
            for seed in range(40):
                first, _ = random_reader(bed, 1 + seed % 3, 50 + seed)
                second, _ = random_reader(bed, 2, 60 + seed)
                plants = plants_to(bed, 5)
                self.check_least(apart(first, second), [one for one in plants if (one in first) != (one in second)])
                self.check_least(escaped(first, second), [one for one in plants if one in first and one not in second])
                self.check_least(escaped(second, first), [one for one in plants if one in second and one not in first])

    def check_least(self, found, plants):
        """Check that what was found is the first of the plants of at most five knots, or larger."""
        if plants:
            self.assertEqual(found, plants[0])
        else:
            self.assertTrue(found is None or len(found) > 5)

    def test_none(self):
        reader, _ = random_reader(BED, 4, 9)
        self.assertIsNone(apart(reader, reader))
        self.assertIsNone(escaped(reader, reader))
        self.assertIsNone(apart(reader, canonical(reader)))
        self.assertIsNone(escaped(complement(everything(BED)), reader))
        self.assertIsNone(escaped(reader, everything(BED)))

    def test_one_side(self):
        leaf, nothing = only(BED, ("leaf",)), complement(everything(BED))
        self.assertEqual(apart(leaf, nothing), ("leaf",))
        self.assertEqual(apart(nothing, leaf), ("leaf",))
        self.assertEqual(escaped(leaf, nothing), ("leaf",))
        self.assertIsNone(escaped(nothing, leaf))
        self.assertEqual(apart(everything(BED), leaf), ("bud",))

    def test_far_away(self):
        self.assertEqual(apart(counting(5, 4), counting(8, 4)), twigs(9))
        self.assertEqual(escaped(counting(5, 4), counting(8, 1, 4, 6)), twigs(19))

    def test_2000_and_2001_knots(self):
        nothing = complement(everything(BED))
        self.assertEqual(apart(tower(2000), nothing), least_in(tower(2000)))
        self.assertEqual(escaped(tower(2000), nothing), least_in(tower(2000)))
        self.refused(KNOTS, apart, tower(2001), nothing)
        self.refused(KNOTS, apart, nothing, tower(2001))
        self.refused(KNOTS, escaped, tower(2001), nothing)
        self.assertIsNone(escaped(nothing, tower(2001)))
        self.assertIsNone(apart(tower(2001), tower(2001)))
        self.assertEqual(apart(tower(2001), everything(BED)), ("leaf",))


class OnePlant(YardTest):
    def test_all_small_plants(self):
        for bed in (BED, WIDE):
            plants = plants_to(bed, 4)
            for plant in plants:
                reader = only(bed, plant)
                self.assertEqual([other for other in plants_to(bed, 5) if other in reader], [plant])
                self.assertEqual(shape(reader), shape(canonical(reader)))

    def test_table(self):
        self.assertEqual(shape(only(BED, ("twig", "bud"))), (3, (2,), (
            ("leaf", (), 0), ("bud", (), 1), ("twig", (0,), 0), ("twig", (1,), 2), ("twig", (2,), 0),
            ("fork", (0, 0), 0), ("fork", (0, 1), 0), ("fork", (0, 2), 0),
            ("fork", (1, 0), 0), ("fork", (1, 1), 0), ("fork", (1, 2), 0),
            ("fork", (2, 0), 0), ("fork", (2, 1), 0), ("fork", (2, 2), 0),
        )))

    def test_the_only_plant_of_a_bed(self):
        bed = Bed(("leaf", 0))
        self.assertEqual(shape(only(bed, ("leaf",))), (1, (0,), (("leaf", (), 0),)))

    def test_39_and_40_different_branches(self):
        found = only(BED, chain(39))
        self.assertEqual(found.states, 40)
        self.assertEqual(least_in(found), chain(39))
        self.refused(STATES, only, BED, chain(40))
        self.refused(STATES, only, BED, chain(2000))
        # The branches are 38 chains and the whole, although there are many more knots.
        self.assertEqual(least_in(only(BED, ("fork",) + chain(38) * 2)), ("fork",) + chain(38) * 2)
        self.refused(STATES, only, BED, ("fork",) + chain(39) * 2)
        self.refused(STATES, only, BED, ("fork",) + chain(38) + ("bud",))

    def test_plants_are_checked(self):
        self.refused(named(InvalidPlant, place=2), only, BED, ("fork", "leaf"))
        self.refused(named(InvalidPlant, place=0), only, BED, ("*",))
        self.refused(KNOTS, only, BED, chain(2001))
        self.refused(KNOTS, only, BED, ("rose",) * 2001)

    def test_large_plants_with_few_branches(self):
        plant = ("leaf",)
        for _ in range(9):
            plant = ("fork",) + plant * 2
        self.assertEqual(len(plant), 1023)
        self.assertEqual(least_in(only(BED, plant)), plant)
        self.assertEqual(only(BED, plant).states, 11)

    def test_everything(self):
        for bed in (BED, WIDE):
            reader = everything(bed)
            self.assertEqual((reader.states, reader.marks), (1, (0,)))
            self.assertEqual(reader.table(), tuple([(kind, (0,) * many, 0) for kind, many in bed.rows]))
            self.assertTrue(all([plant in reader for plant in plants_to(bed, 4)]))
            self.assertIs(reader.bed, bed)


class Beds(YardTest):
    def test_another_bed(self):
        mine, other = everything(BED), everything(TURNED)
        for call in (all_of, any_of, without, apart, escaped, closed_pairs):
            self.refused(named(OtherBed), call, mine, other)
            self.refused(named(OtherBed), call, other, mine)
        self.refused(named(OtherBed), all_of, mine, mine, other)
        self.refused(named(OtherBed), any_of, mine, mine, other, mine)
        self.refused(named(OtherBed), is_closed, mine, other, ((7, 7),))

    def test_beds_come_before_everything_else(self):
        other = everything(TURNED)
        self.refused(named(OtherBed), all_of, tower(2001), tower(2001), other)
        for call in (all_of, any_of):
            self.refused(named(OtherBed), call, counting(6, 1), counting(7, 1), other)

    def test_two_beds_with_the_same_pairs(self):
        twin = Bed(*BED.rows)
        for seed in range(10):
            rows, marks, otherwise = random_parts(BED, 3, seed)
            mine = Reader(BED, 3, rows, marks, otherwise=otherwise)
            other = Reader(twin, 3, rows, marks, otherwise=otherwise)
            self.assertEqual(shape(all_of(mine, other)), shape(canonical(mine)))
            self.assertEqual(shape(any_of(other, mine)), shape(canonical(mine)))
            self.assertEqual(without(mine, other).marks, ())
            self.assertIsNone(apart(mine, other))
            self.assertIsNone(escaped(mine, other))
            self.assertIs(is_closed(mine, other, closed_pairs(mine, other)), True)

    def test_the_arguments_do_not_change(self):
        first, second = random_reader(BED, 3, 1)[0], random_reader(BED, 3, 2)[0]
        before = (shape(first), shape(second), BED.rows)
        for call in (all_of, any_of, without, apart, escaped, closed_pairs):
            call(first, second)
        complement(first)
        self.assertEqual((shape(first), shape(second), BED.rows), before)


class JointStates(YardTest):
    def test_joint_states_are_those_that_plants_have(self):
        for seed in range(20):
            first, step = random_reader(BED, 3, seed)
            second, step2 = random_reader(BED, 3, 70 + seed)
            joint = joint_step(step, step2)
            found = least_by_trying(BED, joint, 6)
            if is_closed_under(BED, joint, list(found)):
                self.assertEqual(closed_pairs(first, second), tuple(sorted(found)))
                for plant in plants_to(BED, 3):
                    self.assertEqual(folded(BED, joint, plant), (first.state_of(plant), second.state_of(plant)))
