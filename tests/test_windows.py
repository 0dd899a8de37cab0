"""Points 64 to 68: what stands around the occurrences of a stump."""

import time

from shearyard.beds import Bed
from shearyard.counting import each_in
from shearyard.errors import InvalidStump, NeverSeen, TooMany
from shearyard.lots import complement, everything, only
from shearyard.pictures import CountPicture, CrownPicture, StumpPicture
from shearyard.plants import branch_at
from shearyard.readers import Reader
from shearyard.stumps import begins
from shearyard.windows import grown, kinds_above, kinds_below, sure_above, sure_below, witness
from tests.checking import YardTest, named
from tests.gardening import common_stump
from tests.reference import (
    BED, WIDE, chain, flat, nested, plants_to, random_reader, right_comb, spots_of, stumps_to, tower,
)
from tests.trimmers import fitted

FORKS = Bed(("leaf", 0), ("fork", 2))
LINE = Bed(("leaf", 0), ("bud", 0), ("twig", 1))
KNOTS = named(TooMany, what="knots", limit=2000)
NEVER = named(NeverSeen)
ASKED = (kinds_above, kinds_below, sure_above, sure_below, grown, witness)


class Seen:
    """All occurrences of a stump in some plants in ascending order: plant, path, the steps above, what is below."""

    def __init__(self, bed, plants, stump):
        self.bed = bed
        self.stump = stump
        self.found = []
        for plant in plants:
            spots = spots_of(nested(bed, plant))
            kinds = {path: branch[0] for path, branch in spots}
            for path, branch in spots:
                below = fitted(nested(bed, stump), branch)
                if below is not None:
                    above = [(kinds[path[:at]], path[at]) for at in range(len(path) - 1, -1, -1)]
                    self.found.append((plant, path, tuple(above), [flat(one) for one in below]))

    def kinds_above(self):
        pairs = {above[0] if above else None for _, _, above, _ in self.found}
        order = [None] + [(kind, branch) for kind, many in self.bed.rows for branch in range(many)]
        return tuple([pair for pair in order if pair in pairs])

    def at_holes(self):
        return list(zip(*[below for _, _, _, below in self.found]))

    def kinds_below(self):
        return tuple([
            tuple([kind for kind in self.bed.kinds if kind in {one[0] for one in hole}]) for hole in self.at_holes()
        ])

    def sure_above(self):
        sure = []
        for steps in zip(*[above for _, _, above, _ in self.found]):
            if len(set(steps)) > 1:
                break
            sure.append(steps[0])
        return tuple(sure)

    def sure_below(self):
        return tuple([common_stump(self.bed, set(hole)) for hole in self.at_holes()])

    def witness(self, under):
        for plant, path, above, _ in self.found:
            if under is None or (above[0] if above else ()) == under:
                return plant, path
        return None


def filled_in(stump, pieces):
    out, pieces = (), list(pieces)
    for entry in stump:
        out += pieces.pop(0) if entry == "*" else (entry,)
    return out


class AgainstSmallPlants(YardTest):
    def check(self, bed, reader, stump, plants):
        marked = [plant for plant in plants if plant in reader]
        seen = Seen(bed, marked, stump)
        if not seen.found:
            for ask in ASKED:
                self.refused(NEVER, ask, reader, stump)
            return
        self.assertEqual(kinds_above(reader, stump), seen.kinds_above())
        self.assertEqual(kinds_below(reader, stump), seen.kinds_below())
        self.assertEqual(sure_above(reader, stump), seen.sure_above())
        self.assertEqual(sure_below(reader, stump), seen.sure_below())
        self.assertEqual(grown(reader, stump), filled_in(stump, seen.sure_below()))
        pairs = [(kind, branch) for kind, many in bed.rows for branch in range(many)]
        for under in (None, (), *pairs):
            found = seen.witness(under)
            if found is None:
                self.refused(NEVER, witness, reader, stump, under=under)
            else:
                self.assertEqual(witness(reader, stump, under=under), found)

    def test_readers_of_few_states(self):
        # These readers show all their pieces in plants of so many knots.
        for bed, knots, seeds, entries in ((FORKS, 15, 25, 5), (LINE, 10, 40, 3), (BED, 8, 14, 3)):
            plants = plants_to(bed, knots)
            for seed in range(seeds):
                reader = random_reader(bed, 2 + seed % 2, seed, 0.9)[0]
                small = [plant for plant in plants if plant in reader][:400]
                for stump in stumps_to(bed, entries):
                    with self.subTest(bed=bed.kinds, seed=seed, stump=stump):
                        self.check(bed, reader, stump, small)

    def test_finitely_many_plants(self):
        for bed, knots in ((BED, 5), (WIDE, 5), (LINE, 6)):
            plants = plants_to(bed, knots)
            for at, plant in enumerate(plants[::7]):
                reader = only(bed, plant)
                for stump in stumps_to(bed, 3)[at % 3::3]:
                    with self.subTest(plant=plant, stump=stump):
                        self.check(bed, reader, stump, [plant])

    def test_low_plants(self):
        for bed, height in ((BED, 3), (WIDE, 2), (LINE, 5)):
            states = height + 1
            rows = []
            for kind, many in bed.rows:
                below = [()]
                for _ in range(many):
                    below = [row + (state,) for row in below for state in range(states)]
                rows.extend([(kind, row, min(height, 1 + max(row, default=-1))) for row in below])
            reader = Reader(bed, states, tuple(rows), tuple(range(height)))
            most = {BED: 7, WIDE: 4, LINE: 5}[bed]
            plants = [plant for plant in plants_to(bed, most) if plant in reader]
            for stump in stumps_to(bed, 2):
                self.check(bed, reader, stump, plants)


class Shown(YardTest):
    """Answers of readers of more states, shown by witnesses."""

    def test_each_pair_is_shown_by_a_witness_and_no_other_one(self):
        shown = 0
        for bed, many in ((BED, 12), (WIDE, 6)):
            pairs = [(kind, branch) for kind, width in bed.rows for branch in range(width)]
            for seed in range(many):
                reader = random_reader(bed, 3 + seed % 4, 600 + seed, 0.9)[0]
                for stump in stumps_to(bed, 3)[seed % 3::3]:
                    try:
                        found = kinds_above(reader, stump)
                    except NeverSeen:
                        continue
                    for under in (None, *pairs):
                        asked = () if under is None else under
                        if under not in found:
                            self.refused(NEVER, witness, reader, stump, under=asked)
                            continue
                        plant, path = witness(reader, stump, under=asked)
                        shown += 1
                        self.assertIn(plant, reader)
                        self.assertIs(begins(bed, grown(reader, stump), branch_at(bed, plant, path)), True)
                        self.assertEqual(path == (), under is None)
                        if under is not None:
                            self.assertEqual((branch_at(bed, plant, path[:-1])[0], path[-1]), under)
        self.assertGreater(shown, 300)


class Edges(YardTest):
    def test_a_lone_hole(self):
        every = everything(BED)
        pairs = (("twig", 0), ("fork", 0), ("fork", 1))
        self.assertEqual(kinds_above(every, ("*",)), (None, *pairs))
        self.assertEqual(kinds_below(every, ("*",)), (BED.kinds,))
        self.assertEqual((sure_above(every, ("*",)), sure_below(every, ("*",))), ((), (("*",),)))
        self.assertEqual(grown(every, ("*",)), ("*",))
        self.assertEqual(witness(every, ("*",)), (("leaf",), ()))
        self.assertEqual(witness(every, ("*",), under=("fork", 1)), (("fork", "leaf", "leaf"), (1,)))

    def test_occurrences_only_at_the_root_and_never_there(self):
        top = Reader(BED, 3, (("leaf", (), 0), ("bud", (), 2), ("twig", (0,), 1), ("fork", (0, 0), 2)), (1,), otherwise=2)
        self.assertEqual(kinds_above(top, ("twig", "*")), (None,))
        self.assertEqual((sure_above(top, ("twig", "*")), grown(top, ("twig", "*"))), ((), ("twig", "leaf")))
        self.refused(NEVER, witness, top, ("twig", "*"), under=("twig", 0))
        self.assertEqual(kinds_above(top, ("leaf",)), (("twig", 0),))
        self.assertEqual(sure_above(top, ("leaf",)), (("twig", 0),))
        self.refused(NEVER, witness, top, ("leaf",), under=())
        self.assertEqual(witness(top, ("leaf",)), (("twig", "leaf"), (0,)))

    def test_sure_above_is_told_from_the_occurrence_to_the_root(self):
        reader = only(BED, ("fork", "leaf", "twig", "fork", "bud", "leaf"))
        self.assertEqual(sure_above(reader, ("bud",)), (("fork", 0), ("twig", 0), ("fork", 1)))
        self.assertEqual(sure_above(reader, ("leaf",)), ())
        self.assertEqual(sure_above(reader, ("fork", "bud", "*")), (("twig", 0), ("fork", 1)))
        self.assertEqual(grown(reader, ("fork", "*", "*")), ("fork", "*", "*"))
        self.assertEqual(grown(reader, ("twig", "*")), ("twig", "fork", "bud", "leaf"))

    def test_pairs_that_no_kind_has(self):
        every = everything(BED)
        for under in (("rose", 0), ("leaf", 0), ("twig", 1), ("fork", -1), ("fork", 2), ("*", 0)):
            self.refused(NEVER, witness, every, ("bud",), under=under)

    def test_under_the_same_kind_in_different_ways(self):
        reader = CrownPicture(BED, ("twig", "bud")).as_reader()
        self.assertEqual(witness(reader, ("leaf",), under=("fork", 0)), (("fork", "leaf", "twig", "bud"), (0,)))
        self.assertEqual(witness(reader, ("leaf",), under=("fork", 1)), (("fork", "twig", "bud", "leaf"), (1,)))
        self.assertEqual(witness(reader, ("leaf",), under=("twig", 0)), (("fork", "twig", "leaf", "twig", "bud"), (0, 0)))
        self.refused(NEVER, witness, reader, ("leaf",), under=())

    def test_the_first_path_as_asked(self):
        reader = only(BED, ("fork", "twig", "bud", "fork", "bud", "twig", "bud"))
        for under, path in ((None, (0, 0)), (("twig", 0), (0, 0)), (("fork", 0), (1, 0))):
            self.assertEqual(witness(reader, ("bud",), under=under)[1], path)
        self.refused(NEVER, witness, reader, ("bud",), under=("fork", 1))

    def test_no_plant_at_all(self):
        for ask in ASKED:
            self.refused(NEVER, ask, complement(everything(BED)), ("*",))
            self.refused(NEVER, ask, complement(everything(BED)), ("bud",))
            self.refused(NEVER, ask, only(BED, ("leaf",)), ("bud",))

    def test_states_that_are_no_classes_do_not_count(self):
        # State 3 is never had, and states 1 and 2 cannot be told apart.
        reader = Reader(BED, 4, (("leaf", (), 1), ("bud", (), 2), ("twig", (3,), 1), ("fork", (3, 3), 3)), (1, 2, 3))
        self.assertEqual(kinds_above(reader, ("leaf",)), (None,))
        self.assertEqual(kinds_below(reader, ("*",)), (("leaf", "bud"),))


class Large(YardTest):
    def test_stumps_of_2000_entries(self):
        start = time.time()
        every = everything(BED)
        stump = ("twig",) * 1999 + ("*",)
        self.assertEqual(witness(every, stump), (chain(2000), ()))
        self.assertEqual((kinds_below(every, stump), grown(every, stump)), ((BED.kinds,), stump))
        self.assertEqual(sure_above(every, stump), ())
        self.assertEqual(len(kinds_above(every, stump)), 4)
        self.refused(KNOTS, witness, every, stump, under=("twig", 0))
        comb = ("fork", "*") * 999 + ("leaf",)
        self.assertEqual(witness(every, comb), (right_comb(999), ()))
        self.assertEqual(kinds_below(every, comb), (BED.kinds,) * 999)
        many = CountPicture(BED, "twig", 9, 5).as_reader()
        self.assertEqual(witness(many, ("twig",) * 1993 + ("*",)), (chain(1995), ()))
        self.assertLess(time.time() - start, 20)

    def test_too_many_entries(self):
        for ask in ASKED:
            self.refused(KNOTS, ask, everything(BED), ("twig",) * 2000 + ("*",))
            self.refused(KNOTS, ask, complement(everything(BED)), ("rose",) * 2001)
            self.refused(named(InvalidStump, place=1), ask, complement(everything(BED)), ("fork", "rose", "*"))
            self.refused(named(InvalidStump, place=0), ask, tower(2001), ("rose",))
            self.refused(KNOTS, ask, tower(2001), ("leaf",))

    def test_what_grows_to_more_than_2000_entries(self):
        # Below each twig stands the one plant of 1,999 knots.
        plant = tower(1999)
        rows = [row for row in plant.table() if row[2] != plant.otherwise]
        last = max([row[2] for row in rows])
        above = tuple(rows) + (("twig", (last,), last + 1), ("fork", (last + 1, last + 1), last + 2))
        one = Reader(BED, 40, above, (last + 1,), otherwise=39)
        self.assertEqual(len(grown(one, ("twig", "*"))), 2000)
        self.assertEqual(len(witness(one, ("twig", "*"))[0]), 2000)
        self.refused(KNOTS, grown, Reader(BED, 40, above, (last + 2,), otherwise=39), ("twig", "*"))

    def test_holes_whose_stumps_together_are_too_large(self):
        # Only one plant of 1,023 knots can stand at each of the two holes.
        bed = Bed(("leaf", 0), ("bud", 0), ("fork", 2), ("ash", 2))
        rows = [("leaf", (), 0), ("bud", (), 10)] + [("fork", (at, at), at + 1) for at in range(9)]
        reader = Reader(bed, 12, (*rows, ("ash", (9, 9), 10)), (10,), otherwise=11)
        self.assertEqual([len(stump) for stump in sure_below(reader, ("ash", "*", "*"))], [1023, 1023])
        self.assertEqual(kinds_above(reader, ("ash", "*", "*")), (None,))
        self.refused(KNOTS, grown, reader, ("ash", "*", "*"))
        self.refused(KNOTS, witness, reader, ("ash", "*", "*"))
        small = Reader(bed, 12, (*rows, ("ash", (8, 9), 10)), (10,), otherwise=11)
        self.assertEqual(len(grown(small, ("ash", "*", "*"))), 1 + 511 + 1023)

    def test_a_witness_that_is_too_large(self):
        every = everything(BED)
        self.assertEqual(len(witness(every, ("fork", *("twig",) * 1997, "*", "*"))[0]), 2000)
        self.refused(KNOTS, witness, every, ("fork", *("twig",) * 1997, "*", "*"), under=("fork", 1))
        self.refused(NEVER, witness, every, ("fork", *("twig",) * 1997, "*", "*"), under=("fork", 2))

    def test_readers_of_forty_states(self):
        start = time.time()
        rows = tuple([("twig", (at,), (at + 1) % 40) for at in range(40)] + [
            ("fork", (one, two), (one + two + 1) % 40) for one in range(40) for two in range(40)
        ])
        count = Reader(BED, 40, rows, (13,))
        self.assertEqual(witness(count, ("fork", "*", "*")), (("twig",) * 12 + ("fork", "leaf", "leaf"), (0,) * 12))
        self.assertEqual(kinds_above(count, ("fork", "*", "*")), (None, ("twig", 0), ("fork", 0), ("fork", 1)))
        self.assertEqual(sure_above(count, ("bud",)), ())
        self.assertLess(time.time() - start, 10)


class Listed(YardTest):
    def test_the_witness_is_the_first_plant_that_is_listed(self):
        reader = StumpPicture(BED, ("fork", "*", "twig", "*")).as_reader()
        for stump in stumps_to(BED, 3):
            plant, path = witness(reader, stump)
            for listed in each_in(reader, 20):
                seen = Seen(BED, [listed], stump).witness(None)
                if seen is not None:
                    self.assertEqual((plant, path), seen)
                    break
