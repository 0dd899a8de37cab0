"""Points 37 to 42: what parts two gardens, and the paper that shows that nothing does."""

from shearyard.alike import alike_paper, is_alike_paper, parting, same
from shearyard.beds import Bed
from shearyard.earliness import earliest, regrown
from shearyard.errors import OtherBed, TooMany
from shearyard.gardeners import Gardener, Gate, Shear
from shearyard.gardens import Garden
from shearyard.lots import complement, everything, only
from shearyard.oneness import as_one
from shearyard.readers import Reader
from tests.checking import YardTest, named
from tests.equations import PlainEquations
from tests.gardening import (
    changed_shear, doubled, outcome_of, random_gardeners, random_shear, renumbered, wandering_shear,
)
from tests.reference import BED, TWINS, WIDE, chain, plants_to, random_reader, tower

KNOTS = named(TooMany, what="knots", limit=2000)
STATES = named(TooMany, what="states", limit=40)
SHEAR = named(TooMany, what="shear", limit=40)
EQUATIONS = named(TooMany, what="equations", limit=2000)
TURNED = Bed(("bud", 0), ("leaf", 0), ("twig", 1), ("fork", 2))
CHAINS = Bed(("twig", 1), ("leaf", 0), ("bud", 0))
MIRROR = Garden(BED, Shear.mirror(BED))
EMPTY = Garden(BED)
TWICE = Shear(BED, 1, ((0, "twig", ("fork", (0, 0), (0, 0))),))
NONE = complement(everything(BED))


def one(*gardeners):
    """A garden of the gardeners' bed."""
    return Garden(gardeners[0].bed, *gardeners)


def remainders(modulus, *marks, extra=False):
    """A reader of CHAINS whose state is the number of twigs by this modulus; with `extra` one of the lone bud, too."""
    rows = [("leaf", (), 0), ("bud", (), modulus if extra else 0)]
    rows += [("twig", (at,), (at + 1) % modulus) for at in range(modulus)]
    # With `extra` there is no way back from other chains with a bud.
    return Reader(CHAINS, modulus + 2, tuple(rows), marks, otherwise=modulus + 1)


def turning(states, *rows):
    """A shear of CHAINS that takes its states in turn, with more rows."""
    turns = [(at, "twig", ("twig", ((at + 1) % states, 0))) for at in range(states)]
    return Shear(CHAINS, states, tuple(turns + list(rows)))


def pairs_of_gardens():
    """Pairs of gardens: some do the same, others differ somewhere."""
    for bed in (BED, TWINS):
        for seed in range(16):
            shear = wandering_shear(bed, 1 + seed % 4, seed) if seed % 2 else random_shear(bed, 1 + seed % 3, seed)
            gates = [Gate(random_reader(bed, 2, seed + 7, 0.9)[0])] if seed % 3 == 0 else []
            others = [changed_shear(shear, seed), changed_shear(shear, 99 + seed), renumbered(shear), doubled(shear)]
            for other in others:
                yield Garden(bed, *gates, shear), Garden(bed, *gates, other)
            yield Garden(bed, *random_gardeners(bed, seed, 3)), Garden(bed, *random_gardeners(bed, 40 + seed, 2))


class Parting(YardTest):
    def tried(self, first, second):
        """The plants of at most five knots that part two gardens."""
        return [plant for plant in plants_to(first.bed, 5) if outcome_of(first, plant) != outcome_of(second, plant)]

    def test_by_trying(self):
        sizes = {}
        for first, second in pairs_of_gardens():
            found = parting(first, second)
            tried = self.tried(first, second)
            if tried:
                self.assertEqual(found, tried[0])
            else:
                self.assertTrue(found is None or len(found) > 5)
            self.assertEqual(parting(second, first), found)
            self.assertIs(same(first, second), found is None)
            size = None if found is None else len(found)
            sizes[size] = sizes.get(size, 0) + 1
        self.assertGreater(sizes[None], 50)
        self.assertGreater(len(sizes), 3)

    def test_by_trying_with_three_branches(self):
        for seed in range(12):
            shear = wandering_shear(WIDE, 1 + seed % 3, seed)
            first, second = one(shear), one(changed_shear(shear, seed))
            tried = self.tried(first, second)
            found = parting(first, second)
            self.assertTrue(found == tried[0] if tried else found is None or len(found) > 5)

    def test_gardens_that_do_the_same(self):
        idle = Gardener(BED, "idle")
        gate = Gate(random_reader(BED, 3, 8)[0])
        for first, second in (
            (MIRROR + MIRROR, EMPTY), (one(gate, gate), one(gate)), (one(idle), EMPTY),
            (one(gate, idle), one(idle, gate)),
            (one(TWICE, *MIRROR.gardeners), one(*MIRROR.gardeners, TWICE)), (one(Gate(everything(BED))), EMPTY),
            (one(Gate(NONE), TWICE), one(*MIRROR.gardeners, Gate(NONE))),
        ):
            self.assertIsNone(parting(first, second))
            self.assertIs(same(first, second), True)

    def test_as_one(self):
        for seed in range(20):
            garden = Garden(BED, *random_gardeners(BED, seed, 4))
            self.assertIs(same(garden, as_one(garden)), True)
            self.assertIs(same(as_one(garden), garden), True)

    def test_delayed_and_early_outcomes(self):
        """The second shear makes twigs of the knots below before it knows them."""
        first = Shear(BED, 1, ((0, "twig", ("twig", (0, 0))), (0, "fork", ("twig", (0, 0))), (0, "bud", ("leaf",))))
        late = Shear(BED, 2, (
            (0, "twig", ("twig", (1, 0))), (0, "fork", ("twig", (1, 0))), (0, "bud", ("leaf",)),
            (1, "twig", ("twig", (0, 0))), (1, "fork", ("twig", (0, 0))), (1, "bud", ("leaf",)),
        ))
        self.assertIs(same(one(first), one(late)), True)
        self.assertIs(same(one(first), one(regrown(BED, earliest(first)))), True)

    def test_one_branch_for_another_where_the_gate_makes_them_equal(self):
        equal = [("fork", (0, 0), 2), ("fork", (1, 1), 2), ("leaf", (), 0), ("bud", (), 1)]
        gate = Gate(Reader(BED, 4, tuple(equal), (2,), otherwise=3))
        self.assertIs(same(one(gate, *MIRROR.gardeners), one(gate)), True)
        left, right = Shear(BED, 1, ((0, "fork", ((0, 0),)),)), Shear(BED, 1, ((0, "fork", ((0, 1),)),))
        self.assertIs(same(one(gate, left), one(gate, right)), True)
        self.assertEqual(parting(one(left), one(right)), ("fork", "leaf", "bud"))

    def test_gardens_that_differ_only_in_a_refusal(self):
        plant = ("fork", "bud", "twig", "leaf")
        gate = Gate(complement(only(BED, plant)))
        self.assertEqual(parting(one(gate), EMPTY), plant)
        self.assertEqual(parting(one(TWICE), one(gate, TWICE)), plant)
        self.assertEqual(parting(one(Gate(NONE)), EMPTY), ("leaf",))

    def test_which_gate_refuses_does_not_matter(self):
        first, second = Gate(random_reader(BED, 2, 1)[0]), Gate(random_reader(BED, 2, 2)[0])
        self.assertIs(same(one(first, second), one(second, first)), True)

    def test_the_lesser_one_of_a_refusal_and_another_outcome(self):
        buds = Shear(BED, 1, ((0, "bud", ("leaf",)),))
        self.assertEqual(parting(one(Gate(complement(only(BED, ("leaf",))))), one(buds)), ("leaf",))
        self.assertEqual(parting(one(Gate(complement(only(BED, ("twig", "leaf"))))), one(buds)), ("bud",))

    def test_ranks_decide_between_equally_large_plants(self):
        first = Shear(BED, 1, ((0, "fork", ("twig", (0, 1))),))
        second = Shear(BED, 1, ((0, "fork", ("twig", (0, 0))),))
        self.assertEqual(parting(one(first), one(second)), ("fork", "leaf", "bud"))

    def test_the_order_of_plants_where_larger_ones_have_lesser_ranks(self):
        """In this bed a chain has lesser ranks than its tip."""
        bed = Bed(("twig", 1), ("fork", 2), ("leaf", 0), ("bud", 0))
        rows = (("bud", (), 2), ("twig", (0,), 1), ("fork", (0, 1), 2), ("fork", (1, 0), 2))
        even, odd = Gate(Reader(bed, 3, rows, (0,))), Gate(Reader(bed, 3, rows, (2,)))
        twigs = Shear(bed, 1, ((0, "fork", ("twig", "leaf")),))
        leaves = Shear(bed, 1, ((0, "fork", ("leaf",)),))
        self.assertEqual(parting(one(even, twigs), one(even, leaves)), ("fork", "leaf", "leaf"))
        self.assertEqual(parting(one(odd, twigs), one(odd, leaves)), ("fork", "twig", "leaf", "leaf"))
        short = Shear(bed, 1, ((0, "twig", ((0, 0),)), (0, "bud", ("leaf",))))
        self.assertEqual(parting(one(short), Garden(bed)), ("bud",))

    def test_far_from_the_root(self):
        late = turning(40, (39, "leaf", ("bud",)))
        self.assertEqual(parting(one(late), one(Shear.keeping(CHAINS))), ("twig",) * 39 + ("leaf",))
        gate = Gate(remainders(37, 0))
        self.assertEqual(len(parting(one(gate, late), one(gate, turning(1)))), 37 * 27 + 1)

    def test_shears_that_copy_and_drop(self):
        drop = Shear(BED, 1, ((0, "fork", ((0, 1),)),))
        neither = Shear(BED, 1, ((0, "twig", ((0, 0),)), (0, "fork", ((0, 1),))))
        self.assertEqual(parting(one(drop, TWICE), one(TWICE, drop)), ("twig", "leaf"))
        self.assertIs(same(one(TWICE, drop), one(neither)), True)
        self.assertIs(same(one(TWICE, drop), one(neither, drop)), True)

    def test_between_two_gardeners_there_is_no_limit(self):
        """Chains of 12 twigs become too large in between, but they count as well."""
        small = Shear(BED, 1, ((0, "fork", ("leaf",)),))
        cut = Shear(BED, 1, ((0, "fork", ("leaf",)), (0, "twig", ("leaf",))))
        self.assertIs(same(one(TWICE, small), one(cut)), True)


class Papers(YardTest):
    def test_papers_by_trying(self):
        sizes = {}
        for first, second in pairs_of_gardens():
            paper = alike_paper(first, second)
            if parting(first, second) is not None:
                self.assertIsNone(paper)
                continue
            wanted = PlainEquations(first, second).all()
            self.assertIs(type(paper), tuple)
            self.assertEqual(sorted(paper, key=str), sorted(wanted, key=str))
            self.assertIs(is_alike_paper(first, second, paper), True)
            sizes[len(paper)] = True
        self.assertGreater(len(sizes), 4)

    def test_an_entry_less(self):
        tried = 0
        for first, second in pairs_of_gardens():
            paper = alike_paper(first, second)
            for place in range(len(paper or ())):
                tried += 1
                self.assertIs(is_alike_paper(first, second, paper[:place] + paper[place + 1:]), False)
        self.assertGreater(tried, 100)

    def test_entries_twice_and_in_another_order(self):
        for first, second in pairs_of_gardens():
            paper = alike_paper(first, second)
            if paper is not None:
                self.assertIs(is_alike_paper(first, second, paper[::-1] + paper), True)

    def test_the_paper_of_other_gardens(self):
        for first, second in pairs_of_gardens():
            if parting(first, second) is not None:
                plain = PlainEquations(first, second)
                self.assertIs(is_alike_paper(first, second, tuple(plain.all())), False)
                self.assertIs(is_alike_paper(first, second, tuple(plain.firsts())), False)

    def test_entries_more(self):
        kept = refused = 0
        for seed, (first, second) in enumerate(pairs_of_gardens()):
            paper = alike_paper(first, second)
            if paper is None:
                continue
            plain = PlainEquations(first, second)
            for state in range(plain.reader.states):
                for left in range(min(2, plain.shears[0].states)):
                    more = (state, (left,), (seed % plain.shears[1].states,))
                    base = plain.worked(0, (left,), plain.bases[state])
                    for entry in (more, (state, (left,), base), (state, base, more[2])):
                        wanted = plain.is_paper(paper + (entry,))
                        kept, refused = kept + wanted, refused + (not wanted)
                        self.assertIs(is_alike_paper(first, second, (entry,) + paper), wanted)
        self.assertGreater(min(kept, refused), 20)

    def test_strange_entries(self):
        garden = one(Shear(BED, 3, ((0, "twig", ((1, 0),)),)))
        paper = alike_paper(garden, EMPTY + garden)
        self.assertIs(is_alike_paper(garden, EMPTY + garden, paper), True)
        for entry in (
            (1, (0,), (0,)), (-1, (0,), (0,)), (0, (3,), (0,)), (0, (0,), (3,)), (0, (-1,), (0,)),
            (0, ("leaf",), ("leaf",)), (0, ("twig", 0), ("twig", 0)), (0, ("rose",), (0,)), (0, (0,), ("rose",)),
            (0, (), (0,)), (0, (0,), ()), (0, (0, 0), (0,)), (0, ("twig",), (0,)), (0, (0,), ("leaf", "leaf")),
            (0, (0,), ("fork", 0)), (0, (0,), ("twig", "*")), (0, (0,), ("*",)),
        ):
            with self.subTest(entry=entry):
                self.assertIs(is_alike_paper(garden, EMPTY + garden, paper + (entry,)), False)
                self.assertIs(is_alike_paper(garden, EMPTY + garden, (entry,) + paper), False)

    def test_strange_entries_come_before_any_work(self):
        large = ("fork",) * 1500 + (0,) * 1501
        for entry in ((0, ("rose",), (0,)), (9, (0,), (0,))):
            self.assertIs(is_alike_paper(EMPTY, EMPTY, ((0, (0,), large), entry)), False)
        self.refused(KNOTS, is_alike_paper, EMPTY, EMPTY, ((0, (0,), (0,)), (0, (0,), large)))

    def test_empty_papers(self):
        self.assertIs(is_alike_paper(EMPTY, EMPTY, ()), False)
        nothing = one(Gate(NONE))
        self.assertEqual(alike_paper(nothing, one(Gate(NONE), TWICE)), ())
        self.assertIs(is_alike_paper(nothing, nothing, ()), True)
        self.assertIs(is_alike_paper(nothing, EMPTY, ()), False)

    def test_the_admitted_plants_must_be_the_same(self):
        gate = Gate(complement(only(BED, ("bud",))))
        paper = alike_paper(one(gate), one(gate))
        self.assertIs(is_alike_paper(one(gate), one(gate), paper), True)
        self.assertIs(is_alike_paper(one(gate), EMPTY, paper), False)

    def test_an_equation_more_that_is_closed(self):
        """Nothing leads to state 1 of the shear, but an equation for it is closed as well."""
        garden = one(Shear(BED, 2, ()))
        self.assertEqual(alike_paper(garden, EMPTY), ((0, (0,), (0,)),))
        self.assertIs(is_alike_paper(garden, EMPTY, ((0, (1,), (0,)), (0, (0,), (0,)))), True)
        self.assertIs(is_alike_paper(garden, EMPTY, ((0, (1,), (0,)),)), False)

    def test_a_side_without_a_call(self):
        """Only one plant is admitted, so that a whole branch is known before it is seen."""
        gate = Gate(only(BED, ("twig", "bud")))
        known = Shear(BED, 1, ((0, "twig", ("twig", "bud")),))
        paper = alike_paper(one(gate), one(gate, known))
        self.assertEqual(sorted(paper), sorted(PlainEquations(one(gate), one(gate, known)).all()))
        self.assertIn(("bud",), [side for entry in paper for side in entry[1:]])
        self.assertIs(is_alike_paper(one(gate), one(gate, known), paper), True)


class TooLarge(YardTest):
    def test_2000_2001_and_more_equations(self):
        """Each marked state has 200 equations, and the lone bud has one of its own."""
        for marks, extra, many in ((10, False, 2000), (10, True, 2001), (11, False, 2200), (9, True, 1801)):
            gate = Gate(remainders(20, *range(marks), *([20] if extra else []), extra=extra))
            first, second = one(gate, turning(40)), one(gate, turning(25))
            if many <= 2000:
                paper = alike_paper(first, second)
                self.assertEqual(len(paper), many)
                self.assertIs(is_alike_paper(first, second, paper), True)
                self.assertIs(same(first, second), True)
            else:
                for call in (parting, same, alike_paper):
                    self.refused(EQUATIONS, call, first, second)

    def test_equations_count_also_if_the_gardens_differ(self):
        gate = Gate(remainders(20, *range(11)))
        self.refused(EQUATIONS, parting, one(gate, turning(40)), one(gate, turning(25, (24, "bud", ("leaf",)))))

    def test_a_side_worked_on_a_base(self):
        for twigs in (9, 10):
            gate = Gate(only(BED, chain(twigs + 1)))
            first, second = one(gate, TWICE), one(gate, TWICE, *MIRROR.gardeners)
            if twigs == 9:
                paper = alike_paper(first, second)
                self.assertIs(is_alike_paper(first, second, paper), True)
            else:
                for call in (parting, same, alike_paper):
                    self.refused(KNOTS, call, first, second)
                self.refused(KNOTS, is_alike_paper, first, second, ((gate.reader.marks[0], (0,), (0,)),))

    def test_a_side_worked_on_the_plant_of_an_expansion(self):
        """The least marked plant is a leaf, but forks over long chains are marked as well."""
        for twigs in (9, 10):
            rows = [("leaf", (), 0), ("bud", (), 0), ("fork", (twigs, 0), 0)]
            rows += [("twig", (at,), at + 1) for at in range(twigs)]
            gate = Gate(Reader(BED, twigs + 2, tuple(rows), (0,), otherwise=twigs + 1))
            first, second = one(gate, TWICE), one(gate, TWICE, *MIRROR.gardeners)
            if twigs == 9:
                self.assertEqual(len(parting(first, second)), 12)
            else:
                for call in (parting, same, alike_paper):
                    self.refused(KNOTS, call, first, second)
                self.refused(KNOTS, is_alike_paper, first, second, ((0, (0,), (0,)),))

    def test_copies_in_a_side_worked_on_the_plant_of_an_expansion(self):
        """A leaf and all chains of a multiple of so many twigs are marked; each twig doubles what is above it."""
        for twigs in (9, 10):
            rows = [("leaf", (), 0)] + [("twig", (at,), (at + 1) % twigs) for at in range(twigs)]
            gate = Gate(Reader(BED, twigs + 1, tuple(rows), (0,), otherwise=twigs))
            first, second = one(gate, TWICE), one(gate, TWICE, Shear.keeping(BED))
            if twigs == 9:
                self.assertIs(same(first, second), True)
            else:
                for call in (parting, same, alike_paper):
                    self.refused(KNOTS, call, first, second)

    def test_sides_of_2000_and_2001_knots(self):
        gate = Gate(only(BED, chain(11)))
        for many in (9, 10):
            rows = ((0, "twig", ("twig",) * 199 + ((0, 0),)), (0, "leaf", chain(many + 1)))
            first, second = one(gate, Shear(BED, 1, rows)), one(gate, gate, Shear(BED, 1, rows))
            if many == 9:
                paper = alike_paper(first, second)
                self.assertIs(is_alike_paper(first, second, paper), True)
            else:
                for call in (parting, same, alike_paper):
                    self.refused(KNOTS, call, first, second)
                self.refused(KNOTS, is_alike_paper, first, second, ((gate.reader.marks[0], (0,), (0,)),))

    def test_outcomes_of_the_plant_that_parts_the_gardens(self):
        """A shear doubles so many twigs and then changes a leaf."""
        for twigs in (9, 10):
            rows = [(at, "twig", ("fork", (at + 1, 0), (at + 1, 0))) for at in range(twigs)]
            first = one(Shear(BED, twigs + 1, tuple(rows)))
            second = one(Shear(BED, twigs + 1, tuple(rows + [(twigs, "leaf", ("bud",))])))
            if twigs == 9:
                self.assertEqual(parting(first, second), chain(10))
            else:
                for call in (parting, same, alike_paper):
                    self.refused(KNOTS, call, first, second)

    def test_the_plant_that_parts_the_gardens_is_too_large(self):
        """Each fork has a full binary branch of 1,023 knots as its first one; the shears count the forks."""
        rows = [("leaf", (), 0), ("bud", (), 10), ("fork", (9, 10), 10)]
        rows += [("fork", (at, at), at + 1) for at in range(9)]
        gate = Gate(Reader(BED, 12, tuple(rows), (10,), otherwise=11))
        for forks in (1, 2):
            rows = [(at, "fork", ((at + 1, 1),)) for at in range(forks)] + [(forks, "fork", ((forks, 1),))]
            first = one(gate, Shear(BED, forks + 1, tuple(rows)))
            second = one(gate, Shear(BED, forks + 1, tuple(rows + [(forks, "bud", ("leaf",))])))
            if forks == 1:
                self.assertEqual(len(parting(first, second)), 1025)
            else:
                for call in (parting, same, alike_paper):
                    self.refused(KNOTS, call, first, second)

    def test_a_lesser_plant_by_a_refusal_is_returned_all_the_same(self):
        rows = [(at, "twig", ("fork", (at + 1, 0), (at + 1, 0))) for at in range(10)]
        gate = Gate(complement(only(BED, ("bud",))))
        first = one(Shear(BED, 11, tuple(rows)))
        second = one(gate, Shear(BED, 11, tuple(rows + [(10, "leaf", ("bud",))])))
        self.assertEqual(parting(first, second), ("bud",))

    def test_too_many_where_the_parts_raise_it(self):
        states = one(Gate(remainders(6, 1)), Gate(remainders(7, 1)))
        six, seven = one(Gate(remainders(6, 1))), one(Gate(remainders(7, 1)))
        chained = one(turning(6), turning(7))
        large = one(Gate(tower(2001)))
        for call in (parting, same, alike_paper):
            self.refused(STATES, call, states, Garden(CHAINS))
            self.refused(STATES, call, six, seven)
            self.refused(SHEAR, call, Garden(CHAINS), chained)
            self.refused(KNOTS, call, large, large)
        self.refused(STATES, is_alike_paper, six, seven, ())
        self.refused(SHEAR, is_alike_paper, chained, Garden(CHAINS), ((0, (0,), (0,)),))
        self.refused(KNOTS, is_alike_paper, large, large, ())


class Errors(YardTest):
    def test_another_bed(self):
        for bed in (TURNED, WIDE):
            for call in (parting, same, alike_paper):
                self.refused(named(OtherBed), call, EMPTY, Garden(bed))
                self.refused(named(OtherBed), call, Garden(bed), one(Gate(tower(2001))))
            self.refused(named(OtherBed), is_alike_paper, EMPTY, Garden(bed), ((0, (), ()),))
        twin = Garden(Bed(*BED.rows))
        self.assertIs(same(EMPTY, twin), True)
        self.assertIs(is_alike_paper(twin, EMPTY, alike_paper(EMPTY, twin)), True)

    def test_the_arguments_do_not_change(self):
        first, second = one(TWICE), one(TWICE, Shear.keeping(BED))
        paper = alike_paper(first, second)
        shown = (first.gardeners, second.gardeners, TWICE.table(), str(paper))
        for call in (parting, same, alike_paper):
            call(first, second)
        is_alike_paper(first, second, paper)
        self.assertEqual((first.gardeners, second.gardeners, TWICE.table(), str(paper)), shown)
