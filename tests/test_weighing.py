"""Points 71 to 73: weighings that always hold, plants that break others, and spans."""

import random
import time

from shearyard.accounts import account
from shearyard.beds import Bed
from shearyard.errors import InvalidWeighing, NoPlant, TooMany
from shearyard.gardeners import Gardener, Gate, Shear
from shearyard.gardens import Garden
from shearyard.lots import any_of, complement, everything, only
from shearyard.pictures import CountPicture, HeightPicture, StumpPicture, WindowPicture
from shearyard.readers import Reader
from shearyard.weighing import always, breaking, holds_always, is_span, span
from tests.checking import YardTest, named
from tests.gardening import outcome_of, random_gardeners, random_shear, wandering_shear
from tests.reference import BED, WIDE, chain, plants_to, random_reader, right_comb, tower
from tests.sums import echelon, holds_for, rank, small_accounts, weighings_of, whole

FORKS = Bed(("leaf", 0), ("fork", 2))
LINE = Bed(("leaf", 0), ("twig", 1))
LINED = Bed(("leaf", 0), ("bud", 0), ("twig", 1))
KNOTS = named(TooMany, what="knots", limit=2000)
STATES = named(TooMany, what="states", limit=40)
SHEAR = named(TooMany, what="shear", limit=40)
NONE = named(NoPlant)
INVALID = named(InvalidWeighing)
NEVER = Gate(complement(everything(BED)))
# As many knots as a plant needs to show everything of the gardens of two gardeners below.
ENOUGH = {BED.rows: 8, WIDE.rows: 7, FORKS.rows: 13, LINE.rows: 11}


def gate(*plants):
    """A gate that admits only these plants."""
    return Gate(any_of(*[only(BED, plant) for plant in plants]))


def gardens():
    """Random gardens of few gardeners."""
    for bed, many in ((FORKS, 40), (LINE, 40), (BED, 40), (WIDE, 12)):
        for seed in range(many):
            yield Garden(bed, *random_gardeners(bed, seed, seed % 3, seed % 4 > 0))


def least_sizes(garden, accounts):
    """The sizes of the plants of a span that is as small as it can be; `accounts` has a least plant for each account."""
    rows, sizes = [], []
    for account_of_plant, plant in sorted(accounts.items(), key=lambda item: len(item[1])):
        row = [*account_of_plant, -1]
        if rank(rows + [row]) > len(rows):
            rows.append(row)
            sizes.append(len(plant))
    return sizes


class Always(YardTest):
    def check(self, garden, knots):
        """Compare the garden's weighings with those that hold for all small plants; whether it admits a plant."""
        accounts = small_accounts(garden, knots)
        columns = 2 * len(garden.bed.kinds) + 1
        if not accounts:
            self.refused(NONE, always, garden)
            return False
        found = always(garden)
        self.assertEqual(found, weighings_of(accounts, columns))
        plants = span(garden)
        self.assertEqual(sorted([len(plant) for plant in plants]), least_sizes(garden, accounts))
        self.assertEqual(len(plants), columns - len(found))
        self.assertEqual(rank([[*account(garden, plant), -1] for plant in plants]), len(plants))
        self.assertIs(is_span(garden, plants), True)
        return True

    def test_against_all_small_plants(self):
        told = {True: 0, False: 0}
        for garden in gardens():
            with self.subTest(garden.bed.kinds, gardeners=[vars(gardener) for gardener in garden.gardeners]):
                told[self.check(garden, ENOUGH[garden.bed.rows])] += 1
        self.assertGreater(told[True], 80)
        self.assertGreater(told[False], 2)

    def test_readers_and_shears_of_more_states(self):
        for bed, knots in ((LINE, 16), (FORKS, 15)):
            for seed in range(30):
                garden = Garden(bed, Gate(random_reader(bed, 3, seed, 0.9)[0]), wandering_shear(bed, 3, seed))
                self.check(garden, knots)

    def test_one_shear_by_hand(self):
        twice = Garden(BED, Shear(BED, 1, ((0, "twig", ("fork", (0, 0), (0, 0))),)))
        # Forks bear one branch more than they are; all knots that come out are leaves, buds and forks.
        self.assertEqual(always(twice), ((1, 1, 0, -1, 0, 0, 0, 0, 1), (0, 0, 0, 0, 1, 1, 0, -1, 1),
                                         (0, 0, 0, 0, 0, 0, 1, 0, 0)))
        line = Garden(LINE, Shear(LINE, 1, ((0, "twig", ("twig", "twig", (0, 0))),)))
        self.assertEqual(always(line), ((1, 0, 0, 0, 1), (0, 2, 0, -1, 0), (0, 0, 1, 0, 1)))

    def test_one_plant_and_two_plants(self):
        self.assertEqual(always(Garden(BED, gate(("twig", "bud")))), (
            (1, 0, 0, 0, 0, 0, 0, 0, 0), (0, 1, 0, 0, 0, 0, 0, 0, 1), (0, 0, 1, 0, 0, 0, 0, 0, 1),
            (0, 0, 0, 1, 0, 0, 0, 0, 0), (0, 0, 0, 0, 1, 0, 0, 0, 0), (0, 0, 0, 0, 0, 1, 0, 0, 1),
            (0, 0, 0, 0, 0, 0, 1, 0, 1), (0, 0, 0, 0, 0, 0, 0, 1, 0),
        ))
        two = Garden(BED, gate(("bud",), ("twig", "twig", "twig", "leaf")))
        self.assertEqual(len(always(two)), 7)
        self.assertIs(holds_always(two, (3, 0, -1, 0, 0, 0, 0, 0, 0)), True)
        self.assertEqual(sorted(span(two)), [("bud",), ("twig", "twig", "twig", "leaf")])

    def test_finitely_many_plants(self):
        low = Garden(BED, Gate(HeightPicture(BED, 1, slack=1).as_reader()), Shear.mirror(BED))
        accounts = small_accounts(low, 3)
        self.assertEqual(always(low), weighings_of(accounts, 9))

    def test_plants_that_are_far_apart(self):
        # Runs of 9 twigs and their sums, so that all plants but the first ones are large.
        line = Garden(LINE, Gate(CountPicture(LINE, "twig", 9, 7).as_reader()))
        self.assertEqual(always(line), ((1, 0, 0, 0, 1), (0, 1, 0, -1, 0), (0, 0, 1, 0, 1)))
        self.assertEqual(sorted([len(plant) for plant in span(line)]), [8, 17])

    def test_no_plant(self):
        for garden in (Garden(BED, NEVER), Garden(BED, Shear.mirror(BED), NEVER), Garden(BED, gate(("bud",)), gate(("leaf",)))):
            self.refused(NONE, always, garden)
            self.refused(NONE, span, garden)
            for ask in (holds_always, breaking):
                self.refused(NONE, ask, garden, (0,) * 9)
                self.refused(INVALID, ask, garden, (0,) * 8)
                self.refused(INVALID, ask, garden, (0,) * 10)
            self.assertIs(is_span(garden, ()), True)
            self.assertIs(is_span(garden, (("leaf",),)), False)

    def test_empty_garden_and_gardeners_that_do_nothing(self):
        same = ((1, 0, 0, -1, 1), (0, 1, 0, -1, 0), (0, 0, 1, -1, 1))
        for garden in (Garden(FORKS), Garden(FORKS, Gardener(FORKS, "by")), Garden(FORKS, Shear.mirror(FORKS))):
            self.assertEqual(always(garden), same)


class Holding(YardTest):
    def test_sums_of_multiples_hold_and_others_break(self):
        broken = 0
        for number, garden in enumerate(gardens()):
            accounts = small_accounts(garden, ENOUGH[garden.bed.rows])
            if not accounts:
                continue
            dice = random.Random(number)
            found = always(garden)
            columns = 2 * len(garden.bed.kinds) + 1
            mixed = tuple([sum([dice.randrange(-9, 10) * row[at] for row in found]) for at in range(columns)])
            factors = [dice.randrange(-(10 ** 30), 10 ** 30) for _ in found]
            mixed = tuple([sum([many * row[at] for many, row in zip(factors, found)]) for at in range(columns)])
            self.assertIs(holds_always(garden, mixed), True)
            self.assertIs(breaking(garden, mixed), None)
            for change in range(columns):
                other = mixed[:change] + (mixed[change] + dice.choice([1, -3, 2 ** 70]),) + mixed[change + 1:]
                holds = all(holds_for(other, one) for one in accounts)
                self.assertIs(holds_always(garden, other), holds)
                plant = breaking(garden, other)
                self.assertIs(plant is None, holds)
                if plant is not None:
                    out = outcome_of(garden, plant)
                    self.assertIsNotNone(out)
                    self.assertFalse(holds_for(other, account(garden, plant)))
                    broken += 1
        self.assertGreater(broken, 200)

    def test_all_zero(self):
        garden = Garden(BED, gate(("bud",)))
        self.assertIs(holds_always(garden, (0,) * 9), True)
        self.assertIs(breaking(garden, (0,) * 9), None)
        self.assertIs(holds_always(garden, (0,) * 8 + (1,)), False)
        self.assertEqual(breaking(garden, (0,) * 8 + (1,)), ("bud",))

    def test_weights_of_any_size(self):
        huge = 3 ** 200
        weighing = (huge, huge, 0, -huge, 0, 0, 0, 0, huge)
        self.assertIs(holds_always(Garden(BED), weighing), True)
        other = weighing[:-1] + (huge + 1,)
        self.assertIs(holds_always(Garden(BED), other), False)
        self.assertFalse(holds_for(other, account(Garden(BED), breaking(Garden(BED), other))))

    def test_outcomes_of_immense_size(self):
        # Each state doubles what the one before makes of a knot, so that one knot becomes 2 ** 39 leaves.
        rows = [(state, "twig", ("fork", (state + 1, 0), (state + 1, 0))) for state in range(39)]
        rows += [(39, "twig", ("leaf",))] + [(state, "fork", ("leaf",)) for state in range(40)]
        start = time.time()
        shear = Shear(BED, 40, tuple(rows))
        garden = Garden(BED, Gate(StumpPicture(BED, ("twig",) * 38 + ("*",)).as_reader()), shear)
        self.assertIs(holds_always(garden, (0, 0, 0, 0, 1, 1, 0, -1, 1)), True)
        plant = breaking(garden, (0, 0, 0, 0, 0, 0, 0, 1, 2 ** 38 - 1))
        self.assertGreaterEqual(account(garden, plant)[7], 2 ** 39 - 1)
        self.assertLess(time.time() - start, 20)

    def test_answers_of_nearly_2000_knots(self):
        # All plants but one have no twig; that one has 1,999 or 2,000 knots.
        for knots in (1999, 2000):
            tall = tower(knots)
            reader = any_of(tall, only(BED, ("bud",))) if knots == 1999 else tall
            garden = Garden(BED, Gate(reader))
            plant = breaking(garden, (0, 1, 0, 0, 0, 0, 0, 0, 1))
            self.assertEqual(len(plant), knots)
            self.assertIs(is_span(garden, span(garden)), True)


class Large(YardTest):
    def test_readers_and_shears_of_forty_states(self):
        start = time.time()
        rows = tuple([("twig", (at,), (at + 1) % 40) for at in range(40)] + [
            ("fork", (one, two), (one + two + 1) % 40) for one in range(40) for two in range(40)
        ])
        count = Gate(Reader(BED, 40, rows, (13,)))
        for shear in (random_shear(BED, 40, 11, 6, True, 0.9), wandering_shear(BED, 40, 5)):
            self.assertGreater(len(shear.reached()), 25)
            garden = Garden(BED, count, shear)
            plants = span(garden)
            self.assertEqual(len(plants), 9 - len(always(garden)))
            self.assertIs(is_span(garden, plants), True)
            self.assertIs(is_span(garden, plants[1:]), False)
        self.assertLess(time.time() - start, 40)

    def test_plants_of_more_than_2000_knots(self):
        # Below each fork stands one leaf, and at the end the one plant of 1,999 knots.
        tall = tower(1999)
        rows = [row for row in tall.table() if row[2] != tall.otherwise]
        last = tall.marks[0]
        garden = Garden(BED, Gate(Reader(BED, 40, (*rows, ("fork", (0, last), last)), (last,), otherwise=39)))
        self.assertEqual(len(always(garden)), 7)
        self.assertEqual(len(breaking(garden, (0,) * 8 + (1,))), 1999)
        self.refused(KNOTS, span, garden)
        self.refused(KNOTS, breaking, garden, (1, 0, 0, 0, 0, 0, 0, 0, 1000))
        self.assertIs(holds_always(garden, (1, 0, 0, -1, 0, 0, 0, 0, 1)), True)

    def test_counts_that_show_late(self):
        # A shear that counts twigs up to 39 and makes a bud of what follows: only plants of 40 twigs show it.
        rows = [(state, "twig", ("twig", (state + 1, 0))) for state in range(39)] + [(39, "twig", ("bud",))]
        garden = Garden(LINED, Shear(LINED, 40, tuple(rows)))
        self.assertIs(holds_always(garden, (0, 0, 1, 0, 0, -1, 0)), False)
        plant = breaking(garden, (0, 0, 1, 0, 0, -1, 0))
        self.assertEqual(len(plant), 41)
        self.assertEqual(always(garden), ((1, 1, 0, 0, 0, 0, 1), (0, 0, 0, 1, 1, 0, 1)))
        low = Garden(LINED, Gate(complement(StumpPicture(LINED, ("twig",) * 38 + ("*",)).as_reader())), *garden.gardeners)
        self.assertIs(holds_always(low, (0, 0, 1, 0, 0, -1, 0)), True)


class Spans(YardTest):
    def test_more_plants_than_necessary(self):
        for garden in (Garden(BED), Garden(BED, random_shear(BED, 2, 9, 4)), Garden(BED, Gate(HeightPicture(BED, 4).as_reader()))):
            plants = span(garden)
            self.assertIs(is_span(garden, plants + plants), True)
            self.assertIs(is_span(garden, plants[::-1]), True)
            admitted = tuple([plant for plant in plants_to(BED, 6) if outcome_of(garden, plant) is not None])
            self.assertIs(is_span(garden, admitted), True)
            for at in range(len(plants)):
                self.assertIs(is_span(garden, plants[:at] + plants[at + 1:]), False)
            self.assertIs(is_span(garden, ()), False)

    def test_by_accounts(self):
        told = {True: 0, False: 0}
        for number, garden in enumerate(gardens()):
            accounts = small_accounts(garden, ENOUGH[garden.bed.rows])
            wanted = rank([[*one, -1] for one in accounts])
            dice = random.Random(number)
            plants = list(accounts.values())
            for _ in range(4):
                chosen = tuple(dice.sample(plants, min(len(plants), wanted)))
                answer = rank([[*account(garden, plant), -1] for plant in chosen]) == wanted
                self.assertIs(is_span(garden, chosen), answer)
                told[answer] += 1
        self.assertGreater(min(told.values()), 40)

    def test_tuples_that_are_no_admitted_plants(self):
        garden = Garden(BED, gate(("bud",), ("leaf",)))
        plants = span(garden)
        self.assertEqual(sorted(plants), [("bud",), ("leaf",)])
        for other in (
            ("rose",), (), ("twig",), ("leaf", "leaf"), ("twig", "leaf"), chain(2000), chain(2001), ("rose",) * 2001,
            ("*",),
        ):
            self.assertIs(is_span(garden, plants + (other,)), False)
            self.assertIs(is_span(garden, (other,) + plants), False)

    def test_a_wrong_plant_comes_before_a_garden_that_is_too_large(self):
        gates = [Gate(CountPicture(BED, "twig", many, 0).as_reader()) for many in (5, 9)]
        garden = Garden(BED, *gates)
        self.assertIs(is_span(garden, (("rose",),)), False)
        self.refused(STATES, is_span, garden, (("leaf",),))
        self.refused(STATES, is_span, garden, ())

    def test_plants_of_2000_knots(self):
        garden = Garden(BED, Shear(BED, 1, ((0, "twig", ("fork", (0, 0), (0, 0))),)))
        self.assertIs(is_span(garden, (chain(2000), chain(1999), chain(1998, "bud"), right_comb(999))), False)
        # The outcomes of these plants have far more than 2,000 knots.
        plants = (chain(1), chain(1000), chain(1999), chain(2000, "bud"), right_comb(999), chain(1200, "bud"))
        self.assertEqual(rank([[*account(garden, plant), -1] for plant in plants]), 6)
        self.assertIs(is_span(garden, plants), True)
        self.assertIs(is_span(garden, plants[1:]), False)


class Checks(YardTest):
    def test_the_order_of_the_checks(self):
        wide = Garden(BED, *[Gate(CountPicture(BED, "twig", many, 0).as_reader()) for many in (5, 9)], NEVER)
        grow = Shear(BED, 1, ((0, "bud", ("twig",) * 100 + ("bud",)),))
        more = Shear(BED, 1, ((0, "bud", ("twig",) * 101 + ("bud",)),))
        long = Garden(BED, NEVER, grow, more)
        for ask in (holds_always, breaking):
            self.refused(INVALID, ask, long, ())
            self.refused(INVALID, ask, wide, (1,) * 10)
            self.refused(SHEAR, ask, long, (1,) * 9)
        for ask in (always, span):
            self.refused(SHEAR, ask, long)
            self.refused(NONE, ask, wide)
        self.refused(SHEAR, is_span, long, ())
        gates = Garden(BED, *[Gate(CountPicture(BED, "twig", many, 0).as_reader()) for many in (5, 9)])
        self.refused(STATES, always, gates)
        self.refused(STATES, holds_always, gates, (0,) * 9)

    def test_nothing_is_changed(self):
        garden = Garden(BED, random_shear(BED, 2, 3, 4), Gate(WindowPicture(BED, ("twig", "*")).as_reader()))
        before = repr([vars(gardener) for gardener in garden.gardeners])
        answers = [(always(garden), span(garden), breaking(garden, (1,) * 9)) for _ in range(2)]
        self.assertEqual(answers[0], answers[1])
        self.assertEqual(repr([vars(gardener) for gardener in garden.gardeners]), before)


class Reference(YardTest):
    def test_reduced_forms(self):
        rows = [[2, 4, 6, -1], [1, 2, 4, 0]]
        self.assertEqual([whole(row) for row in echelon(rows)], [(1, 2, 0, -2), (0, 0, 2, 1)])
        self.assertEqual(weighings_of([(1, 0), (2, 1)], 3), ((1, -1, 1),))


class Forms(YardTest):
    def test_the_reduced_form(self):
        for garden in gardens():
            if not small_accounts(garden, 6):
                continue
            leads = []
            found = always(garden)
            for row in found:
                lead = next(at for at, number in enumerate(row) if number != 0)
                self.assertGreater(row[lead], 0)
                self.assertEqual([other[lead] for other in found if other is not row], [0] * (len(found) - 1))
                leads.append(lead)
            self.assertEqual(leads, sorted(set(leads)))

    def test_a_counting_reader_that_drops_what_it_counts(self):
        # Only what stands above the state's change comes out, so what comes out is always the same.
        reader = Reader(BED, 2, (("twig", (0,), 1), ("twig", (1,), 0)), (1,))
        garden = Garden(BED, Gate(reader), Shear(BED, 1, ((0, "twig", ("bud",)), (0, "fork", ("leaf",)))))
        accounts = small_accounts(garden, 8)
        self.assertEqual(always(garden), weighings_of(accounts, 9))
        self.assertEqual(always(garden)[-4:], tuple([
            tuple([1 if at == place else 0 for at in range(8)] + [1 if place == 5 else 0]) for place in (4, 5, 6, 7)
        ]))
