"""Points 43 to 45: what surely comes out, earliest forms, and shears regrown from them."""

import random

from shearyard.alike import same
from shearyard.beds import Bed
from shearyard.earliness import earliest, regrown, sure
from shearyard.errors import NoState, TooMany
from shearyard.gardeners import Shear
from shearyard.gardens import Garden
from tests.checking import YardTest, named
from tests.gardening import (
    changed_shear, common_stump, doubled, out_of, random_shear, renumbered, shear_results, wandering_shear,
)
from tests.reference import BED, TWINS, WIDE, chain, plants_to

STATES = named(TooMany, what="states", limit=40)
ENTRIES = named(TooMany, what="entries", limit=200)
SHEAR = named(TooMany, what="shear", limit=40)
CHAINS = Bed(("twig", 1), ("leaf", 0), ("bud", 0))
TWICE = Shear(BED, 1, ((0, "twig", ("fork", (0, 0), (0, 0))),))


def twigs(many, *last):
    """A result of that many twigs and something else."""
    return ("twig",) * many + last


def shears():
    """Random shears of several beds."""
    for bed in (BED, TWINS, WIDE):
        for seed in range(20):
            yield wandering_shear(bed, 1 + seed % 4, seed) if seed % 2 else random_shear(bed, 1 + seed % 3, seed)
    for bed in (BED, TWINS):
        for seed in range(20):
            yield padded(wandering_shear(bed, 1 + seed % 3, seed), seed)


def padded(shear, seed):
    """The shear with states more: before each one comes out, a fork or a twig with it comes out of such a state."""
    dice = random.Random(seed)
    many = shear.states
    leaf, _, twig, fork = shear.bed.kinds
    pads = [(twig, "*"), (fork, "*", leaf), (fork, leaf, "*"), (fork, "*", "*"), (fork, "*", fork, "*", "*")]
    rows = list(shear.table())
    for state in range(many):
        pad = dice.choice(pads)
        for kind in shear.bed.kinds:
            parts = []
            for entry in pad:
                moved = [
                    (part[0] + many * dice.randrange(2), part[1]) if isinstance(part, tuple) else part
                    for part in shear.step(state, kind)
                ]
                parts.extend(moved if entry == "*" else [entry])
            rows.append((many + state, kind, tuple(parts)))
    return Shear(shear.bed, 2 * many, tuple(rows), start=many)


def turning(states, *rows):
    """A shear of CHAINS that takes its states in turn and tells them by a fork of the kinds above, with more rows."""
    turns = [(at, "twig", ("twig", ((at + 1) % states, 0))) for at in range(states)]
    return Shear(CHAINS, states, tuple(turns + list(rows)))


def grown_from(bed, form, plant):
    """What comes out of an earliest form for a plant."""
    axiom, rows = form
    results = {(state, kind): result for state, kind, result in rows}
    return sum([(entry,) if isinstance(entry, str) else out_of(bed, results, entry, plant) for entry in axiom], ())


class Sure(YardTest):
    def test_by_trying(self):
        holes = {}
        for shear in shears():
            for state in range(shear.states):
                found = sure(shear, state)
                results = shear_results(shear)
                outs = [out_of(shear.bed, results, state, plant) for plant in plants_to(shear.bed, 5)]
                self.assertEqual(found, common_stump(shear.bed, outs))
                holes[found.count("*")] = True
        self.assertEqual(sorted(holes), [1, 2, 3])

    def test_one_outcome(self):
        for result in (("leaf",), ("fork", "bud", "twig", "leaf")):
            shear = Shear(BED, 2, tuple([(1, kind, result) for kind in BED.kinds]))
            self.assertEqual(sure(shear, 1), result)
            self.assertEqual(sure(shear, 0), ("*",))

    def test_lone_calls(self):
        rows = [(0, kind, ("twig", "leaf")) for kind in ("leaf", "bud")]
        rows += [(1, kind, ("twig", "twig", "bud")) for kind in ("leaf", "bud")]
        rows += [(0, "twig", ((0, 0),)), (0, "fork", ((1, 1),)), (1, "twig", ((0, 0),)), (1, "fork", ((1, 1),))]
        self.assertEqual(sure(Shear(BED, 2, tuple(rows)), 0), ("twig", "*"))

    def test_states_of_which_others_take_away(self):
        """Each state agrees with the leaves for one level less than the next one."""
        rows = [(0, "bud", ("leaf",))]
        for state in range(1, 6):
            rows += [(state, kind, twigs(state, "leaf")) for kind in ("leaf", "bud")]
            rows.append((state, "twig", ("twig", (state - 1, 0))))
        rows[0] = (0, "twig", ("twig", (0, 0)))
        shear = Shear(CHAINS, 6, tuple(rows))
        self.assertEqual([sure(shear, state) for state in range(6)], [twigs(state, "*") for state in range(6)])

    def test_copies_are_one_by_one(self):
        shear = Shear(BED, 2, tuple([(0, kind, ("fork", "leaf", kind)) for kind in ("leaf", "bud")] + [
            (0, "twig", ("fork", (1, 0), (1, 0))), (0, "fork", ("fork", "leaf", "bud")),
            (1, "bud", ("leaf",)), (1, "twig", ("leaf",)), (1, "fork", ("leaf",)),
        ]))
        self.assertEqual(sure(shear, 0), ("fork", "leaf", "*"))

    def test_200_entries(self):
        rows = ((0, "leaf", twigs(199, "leaf")), (0, "bud", twigs(199, "leaf")), (0, "twig", ((0, 0),)))
        self.assertEqual(sure(Shear(CHAINS, 1, rows), 0), twigs(199, "leaf"))
        rows = ((0, "leaf", twigs(199, "leaf")), (0, "bud", twigs(199, "bud")), (0, "twig", twigs(199, (0, 0))))
        self.assertEqual(sure(Shear(CHAINS, 1, rows), 0), twigs(199, "*"))

    def test_no_state(self):
        for state in (-1, 1, 10 ** 30):
            self.refused(named(NoState, state=state), sure, TWICE, state)

    def test_states_that_are_not_reached(self):
        rows = ((2, "leaf", ("twig", "leaf")), (2, "bud", ("twig", "bud")), (2, "fork", ("twig", (0, 1))))
        shear = Shear(BED, 3, rows)
        self.assertEqual(sure(shear, 2), ("twig", "*"))


class Earliest(YardTest):
    def test_forms_by_trying(self):
        for shear in shears():
            form = earliest(shear)
            for plant in plants_to(shear.bed, 4):
                self.assertEqual(grown_from(shear.bed, form, plant), shear(plant))
            self.check_form(shear.bed, form, sure(shear, shear.start))

    def check_form(self, bed, form, stump):
        """The axiom, the order of the rows, the numbers of the states, and what no state may have."""
        axiom, rows = form
        self.assertEqual(tuple(["*" if isinstance(entry, int) else entry for entry in axiom]), stump)
        states = len(rows) // len(bed.kinds)
        self.assertEqual([row[:2] for row in rows], [(state, kind) for state in range(states) for kind in bed.kinds])
        calls = [entry for entry in axiom if isinstance(entry, int)]
        calls += [entry[0] for row in rows for entry in row[2] if isinstance(entry, tuple)]
        self.assertEqual(list(dict.fromkeys(calls)), list(range(states)))
        gardens = [Garden(bed, Shear(bed, states, rows, start=state)) for state in range(states)]
        for state, garden in enumerate(gardens):
            self.assertFalse(any([same(garden, other) for other in gardens[:state]]))
            self.assertGreater(len({garden(plant)[0] for plant in plants_to(bed, 5)}), 1)

    def test_equal_if_and_only_if_the_shears_do_the_same(self):
        equal = different = 0
        for seed, shear in enumerate(shears()):
            form = earliest(shear)
            self.assertEqual(earliest(renumbered(shear)), form)
            self.assertEqual(earliest(doubled(shear)), form)
            for other in (changed_shear(shear, seed), changed_shear(shear, 77 + seed)):
                wanted = same(Garden(shear.bed, shear), Garden(shear.bed, other))
                equal, different = equal + wanted, different + (not wanted)
                self.assertIs(earliest(other) == form, wanted)
        self.assertGreater(min(equal, different), 15)

    def test_keeping_and_mirror(self):
        self.assertEqual(earliest(Shear.keeping(BED)), ((0,), (
            (0, "leaf", ("leaf",)), (0, "bud", ("bud",)), (0, "twig", ("twig", (0, 0))),
            (0, "fork", ("fork", (0, 0), (0, 1))),
        )))
        self.assertEqual(earliest(Shear.mirror(BED))[1][3], (0, "fork", ("fork", (0, 1), (0, 0))))

    def test_an_early_axiom(self):
        rows = tuple([(0, kind, ("fork", kind, "twig", kind)) for kind in ("leaf", "bud")])
        shear = Shear(BED, 1, rows + ((0, "twig", ((0, 0),)), (0, "fork", ((0, 1),))))
        axiom, rows = earliest(shear)
        self.assertEqual(axiom, ("fork", 0, "twig", 0))
        self.assertEqual(rows, (
            (0, "leaf", ("leaf",)), (0, "bud", ("bud",)), (0, "twig", ((0, 0),)), (0, "fork", ((0, 1),)),
        ))

    def test_numbers_by_first_occurrence(self):
        rows = (
            (0, "leaf", ("fork", "leaf", "leaf")), (0, "bud", ("fork", "leaf", "bud")),
            (0, "twig", ("fork", "twig", (1, 0), (2, 0))), (0, "fork", ("fork", "leaf", (1, 1))),
            (1, "leaf", ("bud",)), (2, "twig", ((1, 0),)),
        )
        axiom, rows = earliest(Shear(BED, 3, rows))
        self.assertEqual(axiom, ("fork", 0, 1))
        self.assertEqual(rows[2][2], ("twig", (2, 0)))
        self.assertEqual(rows[6][2], ((3, 0),))

    def test_forms_with_no_call(self):
        shear = Shear(BED, 2, tuple([(0, kind, ("twig", "bud")) for kind in BED.kinds]))
        self.assertEqual(earliest(shear), (("twig", "bud"), ()))
        shear = Shear(BED, 2, ((0, "leaf", ("bud",)), (0, "twig", ((0, 0),)), (0, "fork", ((0, 0),))))
        self.assertEqual(earliest(shear), (("bud",), ()))

    def test_states_whose_outcome_is_known_are_no_states_of_the_form(self):
        shear = Shear(BED, 2, tuple([(1, kind, ("bud",)) for kind in BED.kinds] + [(0, "twig", ("twig", (1, 0)))]))
        axiom, rows = earliest(shear)
        self.assertEqual((axiom, len(rows), rows[2][2]), ((0,), 4, ("twig", "bud")))

    def test_40_and_41_holes(self):
        """State 0 has two holes, and all others, which do the same, have one each."""
        for states in (39, 40):
            rows = [(0, kind, ("fork", kind, kind)) for kind in ("leaf", "bud")]
            rows += [(0, "twig", ("fork", (1, 0), (1, 0))), (0, "fork", ((0, 0),))]
            rows += [(at, "twig", ("twig", (at + 1 if at + 1 < states else 1, 0))) for at in range(1, states)]
            shear = Shear(BED, states, tuple(rows))
            if states == 39:
                self.assertEqual(len(earliest(shear)[1]), 2 * 4)
            else:
                self.refused(STATES, earliest, shear)

    def test_states_that_are_not_reached_do_not_count(self):
        self.assertEqual(earliest(Shear(CHAINS, 40, ())), earliest(Shear.keeping(CHAINS)))

    def test_results_of_200_and_201_entries(self):
        """What is sure of state 1 comes out with the row that calls it."""
        for many in (49, 50):
            rows = [(0, "twig", twigs(150, (1, 0))), (1, "twig", twigs(many, (0, 0)))]
            rows += [(1, kind, twigs(many, kind)) for kind in ("leaf", "bud")]
            if many == 49:
                form = earliest(Shear(CHAINS, 2, tuple(rows)))
                self.assertEqual([len(row[2]) for row in form[1]], [200, 1, 1, 1, 1, 1])
            else:
                self.refused(ENTRIES, earliest, Shear(CHAINS, 2, tuple(rows)))

    def test_only_results_of_the_form_count(self):
        rows = [(0, "twig", ("leaf",)), (0, "bud", ("leaf",)), (1, "twig", twigs(199, (2, 0)))]
        rows += [(2, kind, twigs(5, kind)) for kind in ("leaf", "bud")] + [(2, "twig", twigs(5, "leaf"))]
        self.assertEqual(earliest(Shear(CHAINS, 3, tuple(rows))), (("leaf",), ()))
        self.refused(ENTRIES, earliest, Shear(CHAINS, 3, tuple(rows), start=1))

    def test_states_come_before_entries(self):
        rows = [(0, "twig", twigs(199, (1, 0)))]
        rows += [(at, kind, ("fork", kind, kind)) for at in range(1, 21) for kind in ("leaf", "bud")]
        rows += [(at, "twig", ("fork", (at % 20 + 1, 0), (at % 20 + 1, 0))) for at in range(1, 21)]
        rows += [(at, "fork", ((at, 0),)) for at in range(1, 21)]
        self.refused(STATES, earliest, Shear(BED, 21, tuple(rows)))
        rows = [row for row in rows if row[0] < 2]
        rows = rows[:-2] + [(1, "twig", ("fork", (1, 0), (1, 0))), rows[-1]]
        self.refused(ENTRIES, earliest, Shear(BED, 21, tuple(rows)))

    def test_long_results(self):
        shear = Shear(CHAINS, 1, ((0, "twig", twigs(199, (0, 0))),))
        self.assertEqual(earliest(shear), ((0,), shear.table()))

    def test_the_shear_does_not_change(self):
        for shear in shears():
            shown = shear.table()
            sure(shear, 0), earliest(shear)
            self.assertEqual(shear.table(), shown)


class Regrown(YardTest):
    def test_by_trying(self):
        for shear in shears():
            form = earliest(shear)
            shown = str(form)
            found = regrown(shear.bed, form)
            self.assertIsInstance(found, Shear)
            self.assertIs(found.bed, shear.bed)
            self.assertEqual((found.start, found.name), (0, "regrown"))
            self.assertEqual((found.states - 1) * len(shear.bed.kinds), len(form[1]))
            self.assertEqual(earliest(found), form)
            for plant in plants_to(shear.bed, 4):
                self.assertEqual(found(plant), shear(plant))
            self.assertEqual(str(form), shown)

    def test_rows(self):
        rows = tuple([(0, kind, ("fork", kind, "twig", kind)) for kind in ("leaf", "bud")])
        shear = Shear(BED, 1, rows + ((0, "twig", ((0, 0),)), (0, "fork", ((0, 1),))))
        self.assertEqual(regrown(BED, earliest(shear)).table(), (
            (0, "leaf", ("fork", "leaf", "twig", "leaf")), (0, "bud", ("fork", "bud", "twig", "bud")),
            (0, "twig", ("fork", (1, 0), "twig", (1, 0))), (0, "fork", ("fork", (1, 1), "twig", (1, 1))),
            (1, "leaf", ("leaf",)), (1, "bud", ("bud",)), (1, "twig", ((1, 0),)), (1, "fork", ((1, 1),)),
        ))

    def test_a_form_with_no_call(self):
        found = regrown(BED, (("twig", "bud"), ()))
        self.assertEqual((found.states, found(chain(50))), (1, ("twig", "bud")))

    def test_40_and_41_states(self):
        for many in (39, 40):
            rows = [(at, "twig", ("twig", ((at + 1) % many, 0))) for at in range(many)] + [(many - 1, "leaf", ("bud",))]
            form = earliest(Shear(CHAINS, many, tuple(rows)))
            self.assertEqual(len(form[1]), 3 * many)
            if many == 39:
                self.assertEqual(regrown(CHAINS, form).states, 40)
            else:
                self.refused(SHEAR, regrown, CHAINS, form)

    def test_results_of_200_and_201_entries(self):
        for many in (98, 99):
            rows = [(0, kind, twigs(101, kind)) for kind in ("leaf", "bud")] + [(0, "twig", twigs(many + 101, (0, 0)))]
            shear = Shear(CHAINS, 1, tuple(rows)) if many == 98 else None
            form = (twigs(101, 0), ((0, "twig", twigs(many, (0, 0))), (0, "leaf", ("leaf",)), (0, "bud", ("bud",))))
            if shear is not None:
                self.assertEqual(earliest(shear)[0], form[0])
                self.assertEqual(len(regrown(CHAINS, form).step(0, "twig")), 200)
            else:
                self.refused(SHEAR, regrown, CHAINS, form)

