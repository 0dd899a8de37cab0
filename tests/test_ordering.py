"""Points 46 and 47: orders of gardeners, copies of a garden, and gardens that undo others."""

import inspect
from itertools import permutations

from shearyard.alike import same
from shearyard.beds import Bed
from shearyard.errors import OtherBed, TooMany
from shearyard.gardeners import Gardener, Gate, Shear
from shearyard.gardens import Garden
from shearyard.lots import complement, everything, only
from shearyard.ordering import any_order, orders, settles, undone
from shearyard.readers import Reader
from tests.checking import YardTest, named
from tests.gardening import outcome_of, random_gardeners, random_shear
from tests.reference import BED, WIDE, chain, plants_to, tower

GARDENERS = named(TooMany, what="gardeners", limit=4)
KNOTS = named(TooMany, what="knots", limit=2000)
STATES = named(TooMany, what="states", limit=40)
TURNED = Bed(("bud", 0), ("leaf", 0), ("twig", 1), ("fork", 2))
CHAINS = Bed(("twig", 1), ("leaf", 0), ("bud", 0))
KEEP, MIRROR = Shear.keeping(BED), Shear.mirror(BED)
BUDS = Shear(BED, 1, ((0, "leaf", ("bud",)),))
LEAVES = Shear(BED, 1, ((0, "bud", ("leaf",)),))
IDLE = Gardener(BED, "idle")
NONE = Gate(complement(everything(BED)))
TRIED = 5


def gate_of(*plants):
    """A gate for all plants but these."""
    return [Gate(complement(only(BED, plant))) for plant in plants]


def remainders(modulus, *marks):
    """A reader of CHAINS whose state is the number of twigs by this modulus."""
    rows = [("twig", (at,), (at + 1) % modulus) for at in range(modulus)]
    return Reader(CHAINS, modulus, tuple(rows), marks)


def all_outcomes(garden):
    """The outcomes of all small plants."""
    return tuple([outcome_of(garden, plant) for plant in plants_to(garden.bed, TRIED)])


class Orders(YardTest):
    def test_by_trying(self):
        sizes = {}
        for seed in range(12):
            gardeners = random_gardeners(BED, seed, 3 if seed % 4 else 2) + ([MIRROR] if seed % 3 == 0 else [])
            found = orders(BED, *gardeners)
            self.assertEqual(sorted(sum(found, ())), list(permutations(range(len(gardeners)))))
            self.assertEqual([list(group) for group in found], [sorted(group) for group in found])
            self.assertEqual(list(found), sorted(found))
            told = [[all_outcomes(Garden(BED, *[gardeners[at] for at in order])) for order in group] for group in found]
            for group in told:
                self.assertEqual(len(set(group)), 1)
            self.assertIs(any_order(BED, *gardeners), len(found) == 1)
            sizes[len(found)] = True
            self.check_groups(gardeners, found)
        self.assertGreater(len(sizes), 2)

    def check_groups(self, gardeners, found):
        """Orders of different groups do not do the same."""
        gardens = [Garden(BED, *[gardeners[at] for at in group[0]]) for group in found]
        for place, garden in enumerate(gardens):
            self.assertFalse(any([same(garden, other) for other in gardens[:place]]))

    def test_leaves_and_buds(self):
        self.assertEqual(orders(BED, BUDS, LEAVES), (((0, 1),), ((1, 0),)))
        self.assertEqual(orders(BED, BUDS, MIRROR, LEAVES), (
            ((0, 1, 2), (0, 2, 1), (1, 0, 2)), ((1, 2, 0), (2, 0, 1), (2, 1, 0)),
        ))
        self.assertEqual((any_order(BED, BUDS, LEAVES), any_order(BED, BUDS, MIRROR)), (False, True))

    def test_gates(self):
        self.assertEqual(len(orders(BED, *gate_of(("leaf",), ("bud",), chain(2)))), 1)
        self.assertEqual(orders(BED, gate_of(("leaf",))[0], BUDS), (((0, 1),), ((1, 0),)))
        self.assertEqual(orders(BED, NONE, BUDS), (((0, 1), (1, 0)),))

    def test_none_and_one_gardener(self):
        self.assertEqual((orders(BED), any_order(BED)), ((((),),), True))
        self.assertEqual((orders(BED, BUDS), any_order(BED, BUDS)), ((((0,),),), True))

    def test_4_and_5_gardeners(self):
        found = orders(BED, IDLE, MIRROR, KEEP, NONE)
        self.assertEqual(found, (tuple(permutations(range(4))),))
        self.assertIs(any_order(BED, IDLE, MIRROR, KEEP, NONE), True)
        self.assertEqual(len(orders(BED, BUDS, LEAVES, BUDS, MIRROR)), 2)
        for call in (orders, any_order):
            self.refused(GARDENERS, call, BED, *[KEEP] * 5)
            self.refused(GARDENERS, call, BED, *[NONE] * 9)

    def test_the_same_gardener_twice(self):
        self.assertEqual(orders(BED, BUDS, BUDS), (((0, 1), (1, 0)),))

    def test_too_many_where_parting_raises_it(self):
        gates = (Gate(remainders(6, 1)), Gate(remainders(7, 1)))
        for call in (orders, any_order):
            self.refused(STATES, call, CHAINS, *gates)
            self.refused(KNOTS, call, BED, Gate(tower(2001)), KEEP)

    def test_another_bed(self):
        for bed in (TURNED, WIDE):
            for call in (orders, any_order):
                self.refused(named(OtherBed), call, BED, KEEP, Shear.keeping(bed))
                self.refused(named(OtherBed), call, BED, *[KEEP] * 5, Gardener(bed, "idle"))
                self.refused(named(OtherBed), call, bed, KEEP)
        self.assertEqual(len(orders(Bed(*BED.rows), KEEP, MIRROR)), 1)


class Settles(YardTest):
    def test_by_trying(self):
        found = {}
        for seed in range(25):
            garden = Garden(BED, *random_gardeners(BED, seed, 1 + seed % 2))
            copies = [self.copies(garden, many) for many in range(4)]
            alike = [same(copies[many], copies[many + 1]) for many in range(3)]
            answer = settles(garden, most=2)
            self.assertEqual(answer, alike.index(True) if True in alike else None)
            if answer is not None:
                self.assertEqual(all_outcomes(copies[answer]), all_outcomes(copies[answer + 1]))
            found[answer] = True
        self.assertGreater(len(found), 2)

    def copies(self, garden, many):
        """So many copies of the garden in a row."""
        return Garden(garden.bed, *list(garden.gardeners) * many)

    def test_each_number(self):
        """A shear cuts so many twigs from the root; 4 copies cut as many as there are in plants of 4 twigs."""
        self.assertEqual(settles(Garden(BED)), 0)
        self.assertEqual(settles(Garden(BED, KEEP, IDLE)), 0)
        self.assertEqual(settles(Garden(BED, BUDS)), 1)
        self.assertEqual(settles(Garden(BED, NONE)), 1)
        self.assertIsNone(settles(Garden(BED, MIRROR)))
        short = Shear(CHAINS, 2, ((0, "twig", ((1, 0),)),))
        for twigs in (1, 2, 3, 4):
            rows = [("leaf", (), 0), ("bud", (), 0)] + [("twig", (at,), at + 1) for at in range(twigs)]
            gate = Gate(Reader(CHAINS, twigs + 2, tuple(rows), tuple(range(twigs + 1)), otherwise=twigs + 1))
            self.assertEqual(settles(Garden(CHAINS, gate, short)), twigs)
            self.assertEqual(settles(Garden(CHAINS, gate, short), most=twigs), twigs)
            self.assertIsNone(settles(Garden(CHAINS, gate, short), most=twigs - 1))
        rows = [("leaf", (), 0), ("bud", (), 0)] + [("twig", (at,), at + 1) for at in range(5)]
        gate = Gate(Reader(CHAINS, 7, tuple(rows), tuple(range(6)), otherwise=6))
        self.assertIsNone(settles(Garden(CHAINS, gate, short)))

    def test_most(self):
        self.assertEqual(str(inspect.signature(settles)), "(garden, *, most=4)")
        self.assertEqual(settles(Garden(BED), most=0), 0)
        self.assertIsNone(settles(Garden(BED, BUDS), most=0))
        self.assertEqual(settles(Garden(BED, BUDS), most=1), 1)

    def test_more_copies_than_the_answer_needs_are_not_asked(self):
        """Nine copies would be too many gardeners, and three copies would have too many entries."""
        self.assertEqual(settles(Garden(BED, *[BUDS] * 8)), 1)
        grow = Garden(CHAINS, Shear(CHAINS, 1, ((0, "twig", ("twig",) * 13 + ((0, 0),)),)))
        for most in (0, 1):
            self.assertIsNone(settles(grow, most=most))
        for most in (2, 3, 4):
            self.refused(named(TooMany, what="shear", limit=40), settles, grow, most=most)

    def test_too_many_where_as_one_raises_it(self):
        self.refused(STATES, settles, Garden(CHAINS, Gate(remainders(6, 1)), Gate(remainders(7, 1))))
        self.refused(KNOTS, settles, Garden(BED, Gate(tower(2001))))


class Undone(YardTest):
    def test_by_trying(self):
        sizes = {}
        for seed in range(30):
            first = Garden(BED, *random_gardeners(BED, seed, 2))
            second = Garden(BED, *random_gardeners(BED, 70 + seed, seed % 2))
            found = undone(first, second)
            tried = [plant for plant in plants_to(BED, TRIED) if self.fails(first, second, plant)]
            self.assertTrue(found == tried[0] if tried else found is None or len(found) > TRIED)
            sizes[None if found is None else len(found)] = True
        self.assertGreater(len(sizes), 1)

    def fails(self, first, second, plant):
        """Whether the first garden admits the plant and the second one does not lead back to it."""
        between = outcome_of(first, plant)
        return between is not None and outcome_of(second, between) != plant

    def test_what_undoes_what(self):
        mirror, buds, leaves = Garden(BED, MIRROR), Garden(BED, BUDS), Garden(BED, LEAVES)
        self.assertIsNone(undone(mirror, mirror))
        self.assertIsNone(undone(Garden(BED), Garden(BED)))
        self.assertEqual(undone(mirror, Garden(BED)), ("fork", "leaf", "bud"))
        self.assertEqual((undone(buds, leaves), undone(leaves, buds)), (("bud",), ("leaf",)))

    def test_only_admitted_plants_count(self):
        no_bud = Gate(Reader(BED, 2, (("bud", (), 1), ("twig", (1,), 1), ("fork", (0, 1), 1), ("fork", (1, 0), 1),
                                      ("fork", (1, 1), 1)), (0,)))
        self.assertIsNone(undone(Garden(BED, no_bud, BUDS), Garden(BED, LEAVES)))
        self.assertEqual(undone(Garden(BED, BUDS), Garden(BED, LEAVES, no_bud)), ("bud",))
        self.assertIsNone(undone(Garden(BED, NONE), Garden(BED, BUDS)))

    def test_a_refusal_counts_as_well(self):
        self.assertEqual(undone(Garden(BED), Garden(BED, *gate_of(chain(3)))), chain(3))
        self.assertIsNone(undone(Garden(BED, *gate_of(chain(3))), Garden(BED, *gate_of(chain(3)))))

    def test_a_shear_that_copies_can_be_undone(self):
        copy = Shear(BED, 1, ((0, "twig", ("fork", (0, 0), (0, 0))), (0, "fork", ("twig", "leaf"))))
        back = Shear(BED, 1, ((0, "fork", ("twig", (0, 0))),))
        self.assertEqual(undone(Garden(BED, copy), Garden(BED, back)), ("fork", "leaf", "leaf"))
        no_fork = Reader(BED, 2, tuple([("fork", (left, right), 1) for left in (0, 1) for right in (0, 1)]
                                       + [("twig", (1,), 1)]), (0,))
        self.assertIsNone(undone(Garden(BED, Gate(no_fork), copy), Garden(BED, back)))

    def test_8_gardeners(self):
        self.assertIsNone(undone(Garden(BED, *[MIRROR] * 8), Garden(BED, *[KEEP] * 8)))

    def test_too_many_where_the_parts_raise_it(self):
        both = Garden(CHAINS, Gate(remainders(6, 1)), Gate(remainders(7, 1)))
        self.refused(STATES, undone, both, Garden(CHAINS))
        self.refused(STATES, undone, Garden(CHAINS), both)
        self.refused(KNOTS, undone, Garden(BED, Gate(tower(2001))), Garden(BED))

    def test_another_bed(self):
        for bed in (TURNED, WIDE):
            self.refused(named(OtherBed), undone, Garden(BED, Gate(tower(2001))), Garden(bed))
            self.refused(named(OtherBed), undone, Garden(bed), Garden(BED, Gate(tower(2001))))

    def test_the_arguments_do_not_change(self):
        first, second = Garden(BED, random_shear(BED, 2, 1, 4)), Garden(BED, MIRROR)
        shown = (first.gardeners, second.gardeners, first.gardeners[0].table())
        orders(BED, *first.gardeners, MIRROR), settles(first, most=1), undone(first, second)
        self.assertEqual((first.gardeners, second.gardeners, first.gardeners[0].table()), shown)
