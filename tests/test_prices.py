"""Points 75 and 76: what changes of plants cost."""

import random
import time
from itertools import product

from shearyard.beds import Bed
from shearyard.errors import InvalidPlant, InvalidPrices, OtherBed, TooMany
from shearyard.lots import any_of, complement, everything, only
from shearyard.pictures import CountPicture, CrownPicture, HeightPicture, StumpPicture, WindowPicture
from shearyard.prices import Prices, cheapest, nearest, price
from shearyard.readers import Reader
from tests.checking import YardTest, named
from tests.reference import BED, WIDE, chain, flat, nested, plants_to, random_reader, right_comb, tower

FORKS = Bed(("leaf", 0), ("fork", 2))
PAIRS = Bed(("leaf", 0), ("twig", 1), ("bud", 0), ("stem", 1), ("fork", 2), ("ash", 2))
TURNED = Bed(("bud", 0), ("leaf", 0), ("twig", 1), ("fork", 2))
KNOTS = named(TooMany, what="knots", limit=2000)
OTHER = named(OtherBed)
NEVER = complement(everything(BED))
SWAPS = (("leaf", "bud", 3), ("bud", "leaf", 1), ("twig", "stem", 4), ("fork", "ash", 0), ("ash", "fork", 7))
PRICES = Prices(PAIRS, 5, *SWAPS)


def changes(prices, plant):
    """All plants into which a plant can be changed, with the least prices, by trying all changes."""
    swaps = {(kind, other): cost for kind, other, cost in prices.swaps}

    def turned(tree):
        found = {(leaf,): prices.cutting for leaf in prices.bed.leaves()}
        for other in prices.bed.kinds:
            cost = 0 if other == tree[0] else swaps.get((tree[0], other))
            if cost is None:
                continue
            for row in product(*[list(turned(branch).items()) for branch in tree[1]]):
                result = (other,) + sum([one for one, _ in row], ())
                total = cost + sum([more for _, more in row])
                found[result] = min(total, found.get(result, total))
        return found

    return turned(nested(prices.bed, plant))


def random_prices(bed, seed):
    """Random prices with some swaps."""
    dice = random.Random(seed)
    swaps = []
    for kind, many in bed.rows:
        for other, as_many in bed.rows:
            if kind != other and many == as_many and dice.random() < 0.6:
                swaps.append((kind, other, dice.choice([0, 1, 2, 3, 1000])))
    dice.shuffle(swaps)
    return Prices(bed, dice.choice([0, 1, 2, 3, 4, 1000]), *swaps)


def order(bed, plant):
    return len(plant), [bed.kinds.index(kind) for kind in plant]


def best_of(bed, pairs):
    """The least (price, plants ..) in the order of prices and then of plants, or None."""
    return min(pairs, key=lambda row: (row[0], [order(bed, plant) for plant in row[1:]]), default=None)


class Checks(YardTest):
    def refuses(self, place, *arguments):
        self.refused(named(InvalidPrices, place=place), Prices, PAIRS, *arguments)

    def test_cutting(self):
        for cutting in (-1, 1001, 10 ** 30):
            self.refuses(-1, cutting)
            self.refuses(-1, cutting, ("rose", "leaf", 3))
        for cutting in (0, 1000):
            self.assertEqual(Prices(PAIRS, cutting).cutting, cutting)

    def test_swaps(self):
        good = ("leaf", "bud", 1000)
        for wrong in (
            ("rose", "leaf", 3), ("leaf", "rose", 3), ("leaf", "leaf", 3), ("leaf", "twig", 3), ("twig", "fork", 3),
            ("bud", "leaf", -1), ("bud", "leaf", 1001), ("bud", "leaf", 10 ** 30), good, ("leaf", "bud", 0),
            ("rose", "rose", 3), ("*", "leaf", 3),
        ):
            self.refuses(1, 5, good, wrong)
            self.refuses(1, 5, good, wrong, wrong)
            self.refuses(2, 5, good, ("bud", "leaf", 0), wrong)

    def test_attributes(self):
        self.assertEqual((PRICES.bed, PRICES.cutting, PRICES.swaps), (PAIRS, 5, SWAPS))
        self.assertEqual(Prices(PAIRS, 0).swaps, ())

    def test_plants(self):
        self.refused(named(InvalidPlant, place=1), price, PRICES, ("twig",), ("rose",))
        self.refused(named(InvalidPlant, place=0), price, PRICES, ("leaf",), ("rose",))
        self.refused(KNOTS, price, PRICES, ("rose",) * 2001, ("rose",))
        self.refused(KNOTS, price, PRICES, ("leaf",), ("rose",) * 2001)
        self.refused(named(InvalidPlant, place=0), cheapest, PRICES, ("*",), everything(PAIRS))
        self.refused(KNOTS, cheapest, PRICES, ("rose",) * 2001, everything(PAIRS))

    def test_beds_come_first(self):
        other = Prices(TURNED, 5)
        self.refused(OTHER, cheapest, other, ("rose",), everything(BED))
        self.refused(OTHER, cheapest, other, ("rose",) * 2001, everything(BED))
        self.refused(OTHER, nearest, other, everything(BED), everything(BED))
        self.refused(OTHER, nearest, Prices(BED, 5), everything(BED), everything(TURNED))
        self.refused(OTHER, nearest, Prices(BED, 5), tower(2001), everything(TURNED))

    def test_nothing_is_changed(self):
        reader = random_reader(PAIRS, 3, 5)[0]
        before = repr((vars(PRICES), vars(reader)))
        for _ in range(2):
            price(PRICES, ("leaf",), ("bud",)), cheapest(PRICES, ("twig", "leaf"), reader), nearest(PRICES, reader, reader)
        self.assertEqual(repr((vars(PRICES), vars(reader))), before)


class Price(YardTest):
    def test_by_trying_all_changes(self):
        for bed, low, high in ((BED, 5, 5), (PAIRS, 3, 4), (WIDE, 4, 4), (FORKS, 7, 9)):
            others = plants_to(bed, high)
            for seed in range(12):
                prices = random_prices(bed, seed)
                for plant in random.Random(seed).sample(plants_to(bed, low), 6):
                    found = changes(prices, plant)
                    for other in others:
                        self.assertEqual(price(prices, plant, other), found.get(other))

    def test_by_hand(self):
        plant = ("fork", "twig", "bud", "leaf")
        for other, cost in (
            (plant, 0), (("fork", "twig", "leaf", "leaf"), 1), (("fork", "twig", "leaf", "bud"), 4),
            (("ash", "stem", "bud", "bud"), 7), (("leaf",), 5), (("bud",), 5), (("twig", "bud"), None),
            (("fork", "leaf", "leaf"), 5), (("ash", "leaf", "bud"), 8), (("fork", "twig", "twig", "bud", "leaf"), None),
            (("fork", "leaf", "twig", "bud"), None),
        ):
            self.assertEqual(price(PRICES, plant, other), cost)
        self.assertEqual(price(PRICES, ("ash", "stem", "leaf", "bud"), ("fork", "stem", "leaf", "bud")), 7)
        # Only one swap is used at a knot, and a stem has none.
        self.assertEqual(price(PRICES, ("stem", "leaf"), ("twig", "leaf")), None)

    def test_prices_0_and_1000(self):
        free = Prices(BED, 0, ("leaf", "bud", 1000), ("bud", "leaf", 0))
        self.assertEqual(price(free, ("fork", "leaf", "leaf"), ("fork", "bud", "bud")), 0)
        self.assertEqual(price(free, ("fork", "bud", "twig", "bud"), ("bud",)), 0)
        dear = Prices(BED, 1000, ("leaf", "bud", 1000))
        self.assertEqual(price(dear, ("fork", "leaf", "leaf"), ("fork", "bud", "bud")), 2000)
        self.assertEqual(price(dear, ("fork", "leaf", "leaf"), ("bud",)), 1000)
        self.assertEqual(price(dear, ("fork", "leaf", "leaf"), ("twig", "bud")), None)

    def test_cuts_of_lone_leaves(self):
        prices = Prices(BED, 2, ("leaf", "bud", 3))
        self.assertEqual(price(prices, ("leaf",), ("bud",)), 2)
        self.assertEqual(price(prices, ("bud",), ("leaf",)), 2)
        self.assertEqual(price(prices, ("leaf",), ("leaf",)), 0)
        self.assertEqual(price(Prices(BED, 4, ("leaf", "bud", 3)), ("leaf",), ("bud",)), 3)

    def test_large_plants(self):
        start = time.time()
        prices = Prices(BED, 1000, ("bud", "leaf", 7))
        self.assertEqual(price(prices, chain(2000, "bud"), chain(2000)), 7)
        self.assertEqual(price(prices, chain(2000), chain(1999)), 1000)
        self.assertEqual(price(prices, chain(1999), chain(2000)), None)
        many = tuple(["bud" if entry == "leaf" else entry for entry in right_comb(999)])
        self.assertEqual(price(prices, many, right_comb(999)), 7000)
        self.assertLess(time.time() - start, 5)


class Cheapest(YardTest):
    def test_by_trying_all_changes(self):
        nothing = 0
        for bed, low in ((BED, 5), (PAIRS, 4), (WIDE, 4), (FORKS, 7)):
            for seed in range(30):
                prices = random_prices(bed, seed)
                reader = random_reader(bed, 1 + seed % 4, seed, 0.8)[0]
                for plant in random.Random(seed).sample(plants_to(bed, low), 5):
                    found = [(cost, other) for other, cost in changes(prices, plant).items() if other in reader]
                    wanted = best_of(bed, found)
                    nothing += wanted is None
                    self.assertEqual(cheapest(prices, plant, reader), wanted)
        self.assertGreater(nothing, 50)

    def test_by_hand(self):
        prices = Prices(BED, 5, ("leaf", "bud", 1), ("bud", "leaf", 1))
        plant = ("fork", "bud", "twig", "twig", "bud")
        self.assertEqual(cheapest(prices, plant, everything(BED)), (0, plant))
        self.assertEqual(cheapest(prices, plant, NEVER), None)
        self.assertEqual(cheapest(prices, plant, CountPicture(BED, "bud", 2, 1).as_reader()),
                         (1, ("fork", "leaf", "twig", "twig", "bud")))
        self.assertEqual(cheapest(prices, plant, HeightPicture(BED, 1, slack=0).as_reader()), (5, ("leaf",)))
        self.assertEqual(cheapest(prices, plant, HeightPicture(BED, 3, slack=0).as_reader()),
                         (5, ("fork", "bud", "twig", "leaf")))
        self.assertEqual(cheapest(prices, plant, only(BED, ("bud",))), (5, ("bud",)))
        self.assertEqual(cheapest(prices, plant, StumpPicture(BED, ("twig", "*")).as_reader()), None)

    def test_the_least_plant_at_the_price(self):
        # Cuts are free, so the least marked plant that can be made counts.
        prices = Prices(BED, 0)
        plant = ("fork", "twig", "twig", "bud", "fork", "bud", "bud")
        self.assertEqual(cheapest(prices, plant, everything(BED)), (0, ("leaf",)))
        self.assertEqual(cheapest(prices, plant, CrownPicture(BED, ("bud",)).as_reader()), (0, ("bud",)))
        self.assertEqual(cheapest(prices, plant, WindowPicture(BED, ("twig", "*")).as_reader()),
                         (0, ("fork", "twig", "leaf", "leaf")))

    def test_a_cut_and_a_swap_at_one_price(self):
        bed = Bed(("leaf", 0), ("bud", 0), ("cone", 0), ("twig", 1))
        either = any_of(only(bed, ("leaf",)), only(bed, ("bud",)))
        for swap, wanted in ((("cone", "bud", 3), "leaf"), (("cone", "bud", 2), "bud"), (("cone", "leaf", 3), "leaf")):
            prices = Prices(bed, 3, swap)
            self.assertEqual(cheapest(prices, ("cone",), either), (swap[2], (wanted,)))
            self.assertEqual(nearest(prices, only(bed, ("cone",)), either), (swap[2], ("cone",), (wanted,)))
        free = Prices(bed, 9, ("cone", "bud", 0), ("bud", "leaf", 0))
        self.assertEqual(cheapest(free, ("twig", "bud"), StumpPicture(bed, ("twig", "*")).as_reader()), (0, ("twig", "leaf")))
        self.assertEqual(cheapest(free, ("twig", "cone"), everything(bed)), (0, ("twig", "bud")))

    def test_the_reader_as_it_is_passed(self):
        # Plants that this reader's canonical one cannot have as least plants do not matter.
        reader = tower(2001)
        self.assertEqual(cheapest(Prices(BED, 0), chain(2000), complement(tower(2000))), (0, ("leaf",)))
        self.assertEqual(cheapest(Prices(BED, 0), chain(2000), reader), None)

    def test_large_plants(self):
        start = time.time()
        rows = tuple([("twig", (at,), (at + 1) % 40) for at in range(40)] + [
            ("fork", (one, two), (one + two + 1) % 40) for one in range(40) for two in range(40)
        ])
        count = Reader(BED, 40, rows, (13,))
        prices = Prices(BED, 500, ("leaf", "bud", 1))
        self.assertEqual(cheapest(prices, chain(2000), count), (500, chain(14)))
        self.assertEqual(cheapest(prices, right_comb(999), count), (500, right_comb(13)))
        self.assertEqual(cheapest(prices, chain(2000), everything(BED)), (0, chain(2000)))
        self.assertLess(time.time() - start, 10)


class Nearest(YardTest):
    def test_by_trying_small_plants(self):
        told = {True: 0, False: 0}
        for bed, knots in ((BED, 5), (PAIRS, 4), (FORKS, 9)):
            plants = plants_to(bed, knots)
            for seed in range(30):
                prices = random_prices(bed, seed)
                first, second = [random_reader(bed, 1 + seed % 3, 100 * at + seed, 0.8)[0] for at in (1, 2)]
                rows = []
                for plant in plants:
                    if plant in first:
                        rows.extend([(cost, plant, other) for other, cost in changes(prices, plant).items()
                                     if other in second])
                wanted = best_of(bed, rows)
                answer = nearest(prices, first, second)
                told[answer is None] += 1
                if answer is None or len(answer[1]) <= knots:
                    self.assertEqual(answer, wanted)
                else:
                    self.assertTrue(wanted is None or answer[0] < wanted[0])
        self.assertGreater(min(told.values()), 5)

    def test_low_plants(self):
        for bed, height, knots in ((BED, 3, 7), (PAIRS, 2, 3)):
            low = HeightPicture(bed, height, slack=0).as_reader()
            plants = [plant for plant in plants_to(bed, knots) if plant in low]
            for seed in range(8):
                prices = random_prices(bed, 50 + seed)
                second = random_reader(bed, 2 + seed % 2, seed, 0.9)[0]
                rows = []
                for plant in plants:
                    rows.extend([(cost, plant, other) for other, cost in changes(prices, plant).items() if other in second])
                self.assertEqual(nearest(prices, low, second), best_of(bed, rows))

    def test_by_hand(self):
        prices = Prices(BED, 5, ("leaf", "bud", 1))
        every = everything(BED)
        self.assertEqual(nearest(prices, every, every), (0, ("leaf",), ("leaf",)))
        self.assertEqual(nearest(prices, only(BED, ("leaf",)), only(BED, ("bud",))), (1, ("leaf",), ("bud",)))
        self.assertEqual(nearest(prices, only(BED, ("bud",)), only(BED, ("leaf",))), (5, ("bud",), ("leaf",)))
        self.assertEqual(nearest(prices, every, NEVER), None)
        self.assertEqual(nearest(prices, NEVER, every), None)
        self.assertEqual(nearest(prices, only(BED, ("leaf",)), only(BED, ("twig", "leaf"))), None)
        # Two forks whose leaves become buds, or one branch that is cut: only the price counts at first.
        first = any_of(only(BED, ("fork", "leaf", "twig", "twig", "leaf")), only(BED, ("fork", "bud", "twig", "bud")))
        second = any_of(only(BED, ("fork", "bud", "bud")), only(BED, ("fork", "bud", "twig", "twig", "bud")))
        self.assertEqual(nearest(prices, first, second), (
            2, ("fork", "leaf", "twig", "twig", "leaf"), ("fork", "bud", "twig", "twig", "bud")))

    def test_the_least_plant_and_then_the_least_other_plant(self):
        free = Prices(PAIRS, 0, ("leaf", "bud", 0), ("twig", "stem", 0))
        first = StumpPicture(PAIRS, ("twig", "*")).as_reader()
        second = any_of(only(PAIRS, ("stem", "bud")), only(PAIRS, ("bud",)))
        self.assertEqual(nearest(free, first, second), (0, ("twig", "leaf"), ("bud",)))
        dear = Prices(PAIRS, 1, ("leaf", "bud", 0), ("twig", "stem", 0))
        self.assertEqual(nearest(dear, first, second), (0, ("twig", "leaf"), ("stem", "bud")))

    def test_plants_that_are_far_apart(self):
        line = Bed(("leaf", 0), ("twig", 1), ("bud", 0))
        prices = Prices(line, 9, ("leaf", "bud", 2))
        first = any_of(only(line, ("twig",) * 3 + ("leaf",)), only(line, ("twig",) * 8 + ("leaf",)))
        second = CountPicture(line, "twig", 9, 8).as_reader()
        self.assertEqual(nearest(prices, first, second), (0, *[("twig",) * 8 + ("leaf",)] * 2))
        buds = CrownPicture(line, ("bud",)).as_reader()
        self.assertEqual(nearest(prices, first, buds), (2, ("twig",) * 3 + ("leaf",), ("twig",) * 3 + ("bud",)))
        sevens, eights = [CountPicture(line, "twig", modulus, 5).as_reader() for modulus in (7, 8)]
        self.assertEqual(nearest(prices, sevens, eights)[1:], (("twig",) * 5 + ("leaf",),) * 2)
        ones = CountPicture(line, "twig", 8, 6).as_reader()
        self.assertEqual(nearest(prices, sevens, ones)[:2], (0, ("twig",) * 54 + ("leaf",)))

    def test_plants_of_2000_and_2001_knots(self):
        prices = Prices(BED, 3)
        for knots in (1999, 2000):
            cost, plant, other = nearest(prices, tower(knots), tower(knots))
            self.assertEqual((cost, len(plant), plant), (0, knots, other))
            self.assertEqual(nearest(prices, tower(knots), only(BED, ("bud",))), (3, plant, ("bud",)))
        self.refused(KNOTS, nearest, prices, tower(2001), everything(BED))
        self.refused(KNOTS, nearest, prices, everything(BED), tower(2001))

    def test_the_least_price_counts_even_if_its_plants_are_too_large(self):
        # The first plant has the full plant of 1,023 knots as its first branch, the other one as its second branch.
        full = tuple([("leaf", (), 0)] + [("fork", (at, at), at + 1) for at in range(9)])
        first, second = [Reader(BED, 12, full + tuple([("fork", below(at), 11) for at in range(12)]), (11,), otherwise=10)
                         for below in (lambda at: (9, at), lambda at: (at, 9))]
        cost, plant, other = nearest(Prices(BED, 1), first, only(BED, ("bud",)))
        self.assertEqual((cost, len(plant), other), (1, 1025, ("bud",)))
        for cutting in (0, 1, 1000):
            self.refused(KNOTS, nearest, Prices(BED, cutting), first, second)
        either = any_of(second, only(BED, ("bud",)))
        self.assertEqual(nearest(Prices(BED, 0), first, either), (0, plant, ("bud",)))
        self.refused(KNOTS, nearest, Prices(BED, 1), first, either)

    def test_two_remainders(self):
        line = Bed(("leaf", 0), ("twig", 1))

        def ring(many, mark):
            return Reader(line, many, tuple([("twig", (at,), (at + 1) % many) for at in range(many)]), (mark,))

        for twigs in (1559, 1521, 40, 38):
            row = ("twig",) * twigs + ("leaf",)
            self.assertEqual(nearest(Prices(line, 1), ring(39, twigs % 39), ring(40, twigs % 40)), (0, row, row))
        self.assertEqual(nearest(Prices(line, 0), ring(39, 38), ring(40, 0)), (0, ("twig",) * 38 + ("leaf",), ("leaf",)))

    def test_canonical_readers(self):
        # The states of the readers do not matter, only what they mark.
        prices = Prices(BED, 4, ("leaf", "bud", 1))
        for seed in range(10):
            first, second = [random_reader(BED, 3, 10 * at + seed)[0] for at in (3, 4)]
            answer = nearest(prices, first, second)
            self.assertEqual(nearest(prices, complement(complement(first)), complement(complement(second))), answer)

    def test_forty_states(self):
        start = time.time()
        rows = tuple([("twig", (at,), (at + 1) % 40) for at in range(40)] + [
            ("fork", (one, two), (one + two + 1) % 40) for one in range(40) for two in range(40)
        ])
        first, second = [Reader(BED, 40, rows, (mark,)) for mark in (13, 17)]
        cost, plant, other = nearest(Prices(BED, 5, ("leaf", "bud", 1)), first, second)
        self.assertEqual((cost, plant in first, other in second), (5, True, True))
        self.assertEqual(price(Prices(BED, 5, ("leaf", "bud", 1)), plant, other), 5)
        self.assertEqual(len(plant), 54)
        self.assertLess(time.time() - start, 20)


class Reference(YardTest):
    def test_trees(self):
        self.assertEqual(flat(nested(PAIRS, ("fork", "leaf", "bud"))), ("fork", "leaf", "bud"))
