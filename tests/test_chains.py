"""Point 31: one shear that does what two shears do one after the other."""

import time

from shearyard.beds import Bed
from shearyard.chains import chained
from shearyard.errors import OtherBed, TooMany
from shearyard.gardeners import Shear
from tests.checking import YardTest, named
from tests.gardening import out_of, random_shear, shear_results
from tests.reference import BED, TWINS, WIDE, plants_to

SHEAR = named(TooMany, what="shear", limit=40)
CHAINS = Bed(("twig", 1), ("leaf", 0))


def chained_by_hand(first, second):
    """The table of the chained shear, worked out as point 31 describes it."""
    bed = first.bed
    one, two = shear_results(first), shear_results(second)

    def work(state, result, place):
        """The outcome of the branch of a result that begins at a place, and the place behind it."""
        entry = result[place]
        if isinstance(entry, tuple):
            return (((entry[0], state), entry[1]),), place + 1
        starts, end = [], place + 1
        for _ in range(bed.branches(entry)):
            starts.append(end)
            _, end = work(state, result, end)
        found = ()
        for part in two[state, entry]:
            found += work(part[0], result, starts[part[1]])[0] if isinstance(part, tuple) else (part,)
        return found, end

    pairs = [(first.start, second.start)]
    rows = []
    for number, (left, right) in enumerate(pairs):
        for kind in bed.kinds:
            result = work(right, one[left, kind], 0)[0]
            for entry in result:
                if isinstance(entry, tuple) and entry[0] not in pairs:
                    pairs.append(entry[0])
            rows.append((number, kind, tuple([
                (pairs.index(entry[0]), entry[1]) if isinstance(entry, tuple) else entry for entry in result
            ])))
    return tuple(rows)


def turning(states):
    """A shear of CHAINS that takes its states in turn."""
    return Shear(CHAINS, states, tuple([(at, "twig", ("twig", ((at + 1) % states, 0))) for at in range(states)]))


class Chained(YardTest):
    def test_by_trying(self):
        for bed in (BED, WIDE, TWINS):
            for seed in range(25):
                first, second = random_shear(bed, 1 + seed % 3, seed), random_shear(bed, 1 + seed % 2, 900 + seed)
                both = chained(first, second)
                for plant in plants_to(bed, 4):
                    between = out_of(bed, shear_results(first), first.start, plant)
                    self.assertEqual(both(plant), out_of(bed, shear_results(second), second.start, between))

    def test_rows_and_numbers(self):
        sizes = {}
        for bed in (BED, WIDE):
            for seed in range(40):
                first, second = random_shear(bed, 1 + seed % 4, seed), random_shear(bed, 1 + seed % 3, 500 + seed)
                both = chained(first, second)
                self.assertEqual(both.table(), chained_by_hand(first, second))
                self.assertEqual((both.start, len(both.reached())), (0, both.states))
                sizes[both.states] = True
        self.assertGreater(len(sizes), 4)

    def test_numbers_of_pairs_come_in_the_order_of_the_calls(self):
        first = Shear(BED, 3, ((2, "fork", ("fork", (0, 1), (1, 0))), (0, "twig", ((2, 0),))), start=2)
        second = Shear(BED, 2, ((1, "fork", ("fork", (0, 1), (1, 0))), (0, "twig", ("leaf",))), start=1)
        both = chained(first, second)
        # State 0 is (2, 1); twigs call (2, 1) again; forks call (1, 0) and then (0, 1).
        self.assertEqual(both.step(0, "twig"), ("twig", (0, 0)))
        self.assertEqual(both.step(0, "fork"), ("fork", (1, 0), (2, 1)))
        self.assertEqual((both.step(1, "twig"), both.step(2, "twig")), (("leaf",), ((0, 0),)))

    def test_a_call_of_the_first_that_the_second_drops_is_not_reached(self):
        first = Shear(BED, 3, ((0, "fork", ("fork", (1, 0), (2, 1))),))
        second = Shear(BED, 1, ((0, "fork", ((0, 1),)),))
        both = chained(first, second)
        self.assertEqual(both.states, 2)
        self.assertEqual(both.step(0, "fork"), ((1, 1),))

    def test_a_copied_call(self):
        first = Shear(BED, 2, ((0, "twig", ("twig", (1, 0))),))
        second = Shear(BED, 2, ((0, "twig", ("fork", (1, 0), (0, 0))),))
        self.assertEqual(chained(first, second).step(0, "twig"), ("fork", (1, 0), (2, 0)))

    def test_name(self):
        first, second = Shear(BED, 1, (), name="north"), Shear(BED, 1, (), name="south")
        self.assertEqual(chained(first, second).name, "north")
        self.assertEqual(chained(Shear.mirror(BED), Shear.mirror(BED)).name, "mirror")
        self.assertIsInstance(chained(first, second), Shear)

    def test_40_and_more_pairs(self):
        self.assertEqual(chained(turning(8), turning(5)).states, 40)
        self.assertEqual(chained(turning(40), turning(8)).states, 40)
        self.refused(SHEAR, chained, turning(6), turning(7))
        self.refused(SHEAR, chained, turning(40), turning(3))

    def test_41_pairs(self):
        """All states of the first in turn beside state 0 of the second one, and one pair more with its state 1."""
        second = Shear(BED, 2, tuple([(0, "fork", ("fork", (0, 0), (1, 1)))] + [
            (1, kind, ("leaf",)) for kind in BED.kinds
        ]))
        for states in (38, 39, 40):
            rows = [(at, "twig", ("twig", ((at + 1) % states, 0))) for at in range(states)]
            forks = [(at, "fork", ("leaf",)) for at in range(1, states)]
            first = Shear(BED, states, tuple(rows + forks + [(0, "fork", ("fork", (0, 0), (1, 1)))]))
            if states < 40:
                self.assertEqual(chained(first, second).states, states + 1)
            else:
                self.refused(SHEAR, chained, first, second)

    def test_results_of_200_and_201_entries(self):
        first = Shear(BED, 1, ((0, "twig", ("twig",) * 100 + ((0, 0),)), (0, "fork", ("twig",) * 101 + ("leaf",))))
        rows = ((0, "twig", ("twig", "twig", (0, 0))), (0, "leaf", ("twig", "bud")))
        self.refused(SHEAR, chained, first, Shear(BED, 1, rows))
        first = Shear(BED, 1, ((0, "twig", ("twig",) * 99 + ((0, 0),)), (0, "fork", ("twig",) * 99 + ("leaf",))))
        both = chained(first, Shear(BED, 1, rows))
        self.assertEqual((len(both.step(0, "twig")), len(both.step(0, "fork"))), (199, 200))
        rows = ((0, "twig", ("twig", "twig", (0, 0))), (0, "leaf", ("twig", "twig", "bud")))
        self.refused(SHEAR, chained, first, Shear(BED, 1, rows))

    def test_only_results_of_reached_pairs_count(self):
        first = Shear(BED, 2, ((1, "twig", ("twig",) * 150 + ((1, 0),)),))
        second = Shear(BED, 1, ((0, "twig", ("twig", "twig", (0, 0))),))
        self.assertEqual(chained(first, second).states, 1)
        self.refused(SHEAR, chained, Shear(BED, 2, ((1, "twig", ("twig",) * 150 + ((1, 0),)),), start=1), second)

    def test_growth_beyond_all_bounds(self):
        first = Shear(BED, 1, ((0, "twig", ("twig",) * 199 + ((0, 0),)),))
        second = Shear(BED, 1, ((0, "twig", ("fork", (0, 0), (0, 0))),))
        begun = time.perf_counter()
        self.refused(SHEAR, chained, first, second)
        self.assertLess(time.perf_counter() - begun, 5)

    def test_another_bed(self):
        turned = Bed(("bud", 0), ("leaf", 0), ("twig", 1), ("fork", 2))
        large = Shear(BED, 1, ((0, "twig", ("twig",) * 199 + ((0, 0),)),))
        for other in (Shear.keeping(turned), Shear.keeping(WIDE)):
            self.refused(named(OtherBed), chained, large, other)
            self.refused(named(OtherBed), chained, other, large)
        twin = Shear.mirror(Bed(*BED.rows))
        self.assertEqual(chained(twin, Shear.mirror(BED)).table(), Shear.keeping(BED).table())

    def test_the_arguments_do_not_change(self):
        first, second = random_shear(BED, 3, 4), random_shear(BED, 3, 5)
        before = (first.table(), second.table())
        chained(first, second)
        self.assertEqual((first.table(), second.table()), before)
