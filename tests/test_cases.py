"""Points 81 to 87: facts about a hidden garden and about plants that are not fully known."""

import random
import time

from shearyard.alike import parting
from shearyard.beds import Bed
from shearyard.canon import canonical
from shearyard.cards import Card, HiddenGarden, HiddenGate, HiddenShear
from shearyard.cases import Case
from shearyard.errors import (
    Conflict, HasSource, InvalidName, InvalidPlant, NothingToUndo, OtherBed, Tangled, TooMany, UnknownName, YardError,
)
from shearyard.gardeners import Gate, Shear
from shearyard.lots import any_of, complement, everything, only
from shearyard.pictures import (
    CountPicture, CrownPicture, HeightPicture, Picture, StumpPicture, WholePicture, WindowPicture,
)
from shearyard.readers import Reader
from tests.checking import YardTest, named
from tests.gardening import common_stump
from tests.reference import BED, chain, plants_to, random_reader, shape, tower
from tests.worlds import Worlds, low_plants, random_garden, random_picture

TURNED = Bed(("bud", 0), ("leaf", 0), ("twig", 1), ("fork", 2))
LINE = Bed(("leaf", 0), ("bud", 0), ("twig", 1))
KNOTS = named(TooMany, what="knots", limit=2000)
STATES = named(TooMany, what="states", limit=40)
FACTS = named(TooMany, what="facts", limit=20)
NAMES = named(TooMany, what="names", limit=8)
OTHER = named(OtherBed)
ANY = Picture(BED)
NEVER = complement(everything(BED))

# What becomes of a twig is hidden, and whether forks pass.
SHEAR = HiddenShear(BED, 1, (), ((0, "twig", (("twig", (0, 0)), ("fork", (0, 0), (0, 0)), ("leaf",))),))
GATE = HiddenGate(BED, 2, (), (("fork", (0, 0), (0, 1)),), (0,))
GARDEN = HiddenGarden(BED, GATE, SHEAR)


def whole(*plant):
    return WholePicture(BED, plant)


def conflict(number):
    return named(Conflict, number=number)


class AgainstWorlds(YardTest):
    """Random cases, compared with all worlds; names that did not come out of the garden stand for low plants."""

    def tell(self, case, worlds, fact):
        """Tell a fact to both; whether it is kept."""
        method, arguments = fact[0], fact[1:]
        worlds.facts.append(fact)
        before = self.state(case)
        if not worlds.choices():
            worlds.facts.pop()
            self.refused(conflict(len(worlds.facts)), getattr(case, method), *arguments)
            self.assertEqual(self.state(case), before)
            return False
        self.assertIsNone(getattr(case, method)(*arguments))
        return True

    def state(self, case):
        return case.choices(), case.facts(), case.open_options(), len(case)

    def compare(self, case, worlds, dice):
        left = worlds.choices()
        self.assertEqual((case.choices(), len(case)), (left, len(left)))
        self.assertEqual(case.open_options(), tuple([
            tuple(sorted({choice[at] for choice in left})) for at in range(len(left[0]))
        ]))
        for name in worlds.names():
            stands = worlds.stand_for(name)
            for _ in range(2):
                reader = random_reader(BED, 2, dice.randrange(10 ** 6))[0]
                for ask, wanted in ((case.possible, any), (case.sure, all)):
                    try:
                        self.assertIs(ask(name, reader), wanted(plant in reader for plant in stands))
                    except TooMany as error:
                        self.assertEqual((error.what, error.limit), ("states", 40))
            if name in worlds.sources():
                self.refused(named(HasSource, name=name), case.plants, name)
            else:
                reader = case.plants(name)
                self.assertEqual(shape(reader), shape(canonical(reader)))
                self.assertEqual([plant for plant in plants_to(BED, 7) if plant in reader], sorted(
                    stands, key=lambda plant: (len(plant), [BED.rank(kind) for kind in plant])))

    def compare_outcomes(self, case, worlds, dice):
        groups = worlds.groups()
        self.assertEqual(case.groups(), groups)
        self.assertIs(case.settled(), len(groups) == 1)
        firsts = [worlds.filled[group[0]] for group in groups]
        asked = [parting(firsts[0], other) for other in firsts[1:]]
        key = lambda plant: (len(plant), [BED.rank(kind) for kind in plant])
        self.assertEqual(case.question(), min(asked, key=key) if asked else None)
        for plant in dice.sample(plants_to(BED, 5), 6):
            found = worlds.outcomes(plant)
            grown = sorted([one for one in found if one is not None], key=key)
            self.assertEqual(case.outcomes_of(plant), ((None,) if None in found else ()) + tuple(grown))
            if None in found:
                self.assertEqual(case.surely(plant), ("open",) if grown else ("refused",))
            else:
                self.assertEqual(case.surely(plant), ("stump", common_stump(BED, grown)))

    def random_fact(self, worlds, dice, picture):
        """A random fact that is not tangled."""
        names = list(worlds.names())
        sources = worlds.sources()
        turn = dice.random()
        if turn < 0.15 or not names:
            return "looked", dice.choice([one for one in "abcd" if one not in names] or names), picture
        name = dice.choice(names)
        if turn < 0.5:
            return "looked", name, random_picture(BED, dice)
        if turn < 0.85:
            others = [one for one in ("x", "y", "z", *names) if one not in sources and one != worlds.root(name)]
            return ("went", name, dice.choice(others)) if others else ("refused", name)
        if turn < 0.94:
            return "refused", name
        return "always", random_reader(BED, 2, dice.randrange(10 ** 6), 0.9)[0]

    def test_random_cases(self):
        plants, picture = low_plants(BED)
        self.assertEqual(len(plants), 74)
        kept = refused = 0
        for seed in range(24):
            dice = random.Random(seed)
            garden = random_garden(BED, seed)
            case, worlds = Case(garden), Worlds(garden, plants)
            for _ in range(9):
                fact = self.random_fact(worlds, dice, picture)
                if fact[0] == "looked" and fact[1] not in worlds.names():
                    fact = ("looked", fact[1], picture)
                with self.subTest(seed=seed, facts=worlds.facts, fact=fact):
                    told = len(worlds.facts)
                    try:
                        stays = self.tell(case, worlds, fact)
                    except TooMany as error:
                        self.assertEqual((error.what, error.limit), ("states", 40))
                        worlds.facts = worlds.facts[:told]
                        continue
                kept, refused = kept + stays, refused + (not stays)
                self.compare(case, worlds, dice)
            self.compare_outcomes(case, worlds, dice)
            self.take_back(case, worlds)
        self.assertGreater(kept, 90)
        self.assertGreater(refused, 15)

    def take_back(self, case, worlds):
        """Take back all facts, one by one."""
        while worlds.facts:
            text = case.facts()[-1]
            self.assertEqual(case.undo(), text)
            worlds.facts.pop()
            self.assertEqual((case.choices(), len(case.facts())), (worlds.choices(), len(worlds.facts)))
        self.refused(named(NothingToUndo), case.undo)


class Facts(YardTest):
    def test_begins_with_all_choices(self):
        case = Case(GARDEN)
        self.assertIs(case.garden, GARDEN)
        self.assertEqual(case.choices(), GARDEN.choices())
        self.assertEqual((len(case), case.facts(), case.open_options()), (6, [], ((0, 1), (0, 1, 2))))

    def test_texts(self):
        case = Case(GARDEN)
        case.looked("oak", StumpPicture(BED, ("twig", "*")))
        case.went("oak", "ash")
        case.looked("ash", HeightPicture(BED, 2))
        case.looked("fir", whole("fork", "leaf", "leaf"))
        case.refused("fir")
        case.always(everything(BED))
        facts = case.facts()
        self.assertEqual(facts, ["looked oak stump twig(*)", "went oak ash", "looked ash height 2 or 1 off",
                                 "looked fir whole fork(leaf,leaf)", "refused fir", "always"])
        facts.clear()
        self.assertEqual(len(case.facts()), 6)
        self.assertEqual(case.choices(), ((1, 0), (1, 1), (1, 2)))
        for text in ("always", "refused fir", "looked fir whole fork(leaf,leaf)", "looked ash height 2 or 1 off"):
            self.assertEqual(case.undo(), text)
        self.refused(named(UnknownName, name="fir"), case.possible, "fir", everything(BED))
        self.assertEqual(len(case), 6)

    def test_what_was_seen_settles_the_garden(self):
        case = Case(GARDEN)
        case.looked("oak", whole("twig", "bud"))
        case.went("oak", "ash")
        self.assertEqual(case.question(), ("twig", "leaf"))
        case.looked("ash", whole("fork", "bud", "bud"))
        self.assertEqual((case.choices(), case.open_options()), (((0, 1), (1, 1)), ((0, 1), (1,))))
        self.assertEqual(case.question(), ("fork", "leaf", "leaf"))
        self.assertEqual(case.surely(("twig", "leaf")), ("stump", ("fork", "leaf", "leaf")))
        self.assertEqual(case.surely(("fork", "leaf", "leaf")), ("open",))
        self.assertEqual(case.outcomes_of(("fork", "leaf", "leaf")), (None, ("fork", "leaf", "leaf")))
        case.looked("fir", whole("fork", "leaf", "leaf"))
        case.refused("fir")
        self.assertEqual(case.surely(("fork", "leaf", "leaf")), ("refused",))
        self.assertEqual((case.groups(), case.settled(), case.question()), ((((1, 1),),), True, None))
        self.refused(conflict(5), case.went, "fir", "elm")
        self.refused(conflict(5), case.looked, "ash", whole("leaf"))
        self.refused(conflict(5), case.always, NEVER)
        self.assertEqual(len(case.facts()), 5)

    def test_no_conflict_is_kept(self):
        case = Case(GARDEN)
        self.refused(conflict(0), case.looked, "oak", Impossible(BED))
        self.refused(named(UnknownName, name="oak"), case.plants, "oak")
        self.assertEqual(case.facts(), [])

    def test_equal_options_in_effect(self):
        # Two choices of a row that is not reached do the same.
        idle = HiddenShear(BED, 2, (), ((1, "bud", (("bud",), ("leaf",))),))
        case = Case(HiddenGarden(BED, idle))
        self.assertEqual((case.groups(), case.settled(), case.question()), ((((0,), (1,)),), True, None))
        self.assertEqual(len(case), 2)

    def test_always(self):
        case = Case(GARDEN)
        no_forks = complement(WindowPicture(BED, ("fork", "*", "*")).as_reader())
        self.refused(conflict(0), case.always, only(BED, ("bud",)))
        # Forks over forks pass in all choices.
        self.refused(conflict(0), case.always, no_forks)
        case.always(complement(StumpPicture(BED, ("twig", "*")).as_reader()))
        self.assertEqual(case.choices(), ((0, 1), (0, 2), (1, 1), (1, 2)))
        self.assertEqual(case.undo(), "always")
        self.assertEqual(len(case), 6)

    def test_nothing_hidden(self):
        case = Case(HiddenGarden(BED, Shear.mirror(BED), Card(BED, "blank"), Gate(complement(only(BED, ("bud",))))))
        self.assertEqual((case.choices(), len(case), case.open_options(), case.groups()), (((),), 1, (), (((),),)))
        self.assertEqual((case.settled(), case.question()), (True, None))
        case.looked("oak", whole("fork", "bud", "leaf"))
        case.went("oak", "ash")
        self.assertIs(case.sure("ash", only(BED, ("fork", "leaf", "bud"))), True)
        self.refused(conflict(2), case.refused, "oak")
        self.assertEqual(case.surely(("bud",)), ("refused",))


class Impossible(Picture):
    """A picture that no plant fits."""

    def fits(self, plant):
        return False

    def as_reader(self):
        return NEVER

    def caption(self):
        return "nothing"


class Names(YardTest):
    def test_invalid_names(self):
        case = Case(GARDEN)
        for wrong in ("", "Oak", "oak1", "ninelette", "o k", "*", "oak\n"):
            error = named(InvalidName, name=wrong)
            self.refused(error, case.looked, wrong, ANY)
            self.refused(error, case.refused, wrong)
            self.refused(error, case.went, wrong, "ash")
            self.refused(error, case.went, "oak", wrong)
            self.refused(error, case.possible, wrong, everything(BED))
            self.refused(error, case.sure, wrong, everything(BED))
            self.refused(error, case.plants, wrong)
        self.refused(named(InvalidName, name="A"), case.went, "A", "B")
        case.looked("eightlet", ANY)
        self.assertEqual(case.facts(), ["looked eightlet any"])

    def test_unknown_names(self):
        case = Case(GARDEN)
        case.went("oak", "ash")
        for name in ("elm", "o"):
            error = named(UnknownName, name=name)
            self.refused(error, case.possible, name, everything(BED))
            self.refused(error, case.sure, name, everything(BED))
            self.refused(error, case.plants, name)
        self.refused(named(HasSource, name="ash"), case.plants, "ash")
        self.assertEqual(shape(case.plants("oak")), shape(everything(BED)))

    def test_names_come_before_the_complement_of_the_reader(self):
        case = Case(GARDEN)
        self.refused(named(UnknownName, name="elm"), case.sure, "elm", tower(2001))
        self.refused(named(InvalidName, name="Elm"), case.sure, "Elm", tower(2001))
        case.looked("elm", ANY)
        self.refused(KNOTS, case.sure, "elm", tower(2001))

    def test_always_mentions_no_name(self):
        case = Case(GARDEN)
        case.always(everything(BED))
        case.looked("always", ANY)
        for name in "abcdefg":
            case.looked(name, ANY)
        case.always(everything(BED))
        self.refused(NAMES, case.looked, "h", ANY)
        self.assertEqual(case.facts()[:2], ["always", "looked always any"])
        self.assertIs(case.possible("always", only(BED, ("bud",))), True)

    def test_tangles(self):
        case = Case(HiddenGarden(BED, SHEAR))

        def tangled(name, other):
            self.refused(named(Tangled, name=other), case.went, name, other)

        tangled("oak", "oak")
        case.went("a", "b")
        case.went("b", "c")
        case.went("a", "d")
        for name in ("a", "x", "c", "b"):
            tangled(name, "b")
        for name in ("a", "b", "c", "d"):
            # All of these came of a, some through a chain.
            tangled(name, "a")
        tangled("c", "c")
        tangled("x", "d")
        tangled("x", "x")
        case.went("x", "a")
        tangled("d", "x")
        tangled("c", "x")
        self.assertEqual(case.facts(), ["went a b", "went b c", "went a d", "went x a"])
        case.undo()
        case.went("d", "x")
        tangled("x", "a")
        self.assertEqual(len(case), 3)

    def test_eight_names_and_twenty_facts(self):
        case = Case(GARDEN)
        for name in "abcdefg":
            case.looked(name, ANY)
        self.refused(NAMES, case.went, "y", "z")
        self.refused(NAMES, case.went, "z", "y")
        case.went("a", "h")
        self.refused(NAMES, case.went, "a", "z")
        self.refused(NAMES, case.looked, "z", ANY)
        self.refused(NAMES, case.refused, "z")
        case.looked("h", ANY)
        case.undo(), case.undo()
        case.refused("z")
        self.assertEqual(len(case.facts()), 8)
        while len(case.facts()) < 20:
            case.looked("a", ANY)
        for ask in ((case.looked, "a", ANY), (case.went, "a", "b"), (case.refused, "a"), (case.always, everything(BED)),
                    (case.looked, "y", ANY), (case.went, "a", "a")):
            self.refused(FACTS, *ask)
        self.assertEqual(case.undo(), "looked a any")
        case.always(everything(BED))
        self.assertEqual(len(case.facts()), 20)

    def test_the_order_of_the_checks(self):
        case = Case(GARDEN)
        large = StumpPicture(BED, ("twig",) * 41 + ("*",))
        self.refused(OTHER, case.looked, "A", Picture(TURNED))
        self.refused(OTHER, case.always, everything(TURNED))
        self.refused(OTHER, case.possible, "A", everything(TURNED))
        self.refused(OTHER, case.sure, "A", everything(TURNED))
        self.refused(named(InvalidName, name="A"), case.looked, "A", large)
        self.refused(STATES, case.looked, "a", large)
        self.refused(KNOTS, case.always, tower(2001))
        for number in range(20):
            case.looked("abcdefgh"[number % 8], ANY)
        self.refused(OTHER, case.looked, "A", Picture(TURNED))
        self.refused(OTHER, case.always, everything(TURNED))
        self.refused(named(InvalidName, name="A"), case.looked, "A", large)
        self.refused(named(InvalidName, name=""), case.went, "z", "")
        self.refused(FACTS, case.looked, "a", large)
        self.refused(FACTS, case.went, "z", "z")
        self.refused(FACTS, case.always, tower(2001))
        case.undo()
        self.refused(NAMES, case.looked, "z", large)
        self.refused(NAMES, case.went, "z", "z")
        self.refused(named(Tangled, name="a"), case.went, "a", "a")
        self.assertEqual(len(case.facts()), 19)


class Sources(YardTest):
    """Names that came out of others, through one garden."""

    def test_a_chain(self):
        case = Case(HiddenGarden(BED, SHEAR))
        case.looked("a", whole("twig", "bud"))
        case.went("a", "b")
        case.went("b", "c")
        case.looked("c", StumpPicture(BED, ("fork", "*", "*")))
        self.assertEqual(case.choices(), ((1,),))
        self.assertIs(case.sure("b", only(BED, ("fork", "bud", "bud"))), True)
        self.assertIs(case.sure("c", only(BED, ("fork", "bud", "bud"))), True)
        self.assertIs(case.possible("c", complement(only(BED, ("fork", "bud", "bud")))), False)

    def test_the_same_plant_goes_in_twice(self):
        case = Case(HiddenGarden(BED, SHEAR))
        case.looked("a", StumpPicture(BED, ("twig", "*")))
        case.went("a", "b")
        case.went("a", "c")
        case.looked("b", StumpPicture(BED, ("fork", "*", "*")))
        self.assertEqual(case.choices(), ((1,),))
        # Both came out of one plant, so they are the same plant.
        case.looked("c", StumpPicture(BED, ("fork", "bud", "*")))
        self.assertIs(case.sure("b", only(BED, ("fork", "bud", "bud"))), True)
        self.refused(conflict(5), case.looked, "b", StumpPicture(BED, ("fork", "leaf", "*")))

    def test_shears_that_copy(self):
        # What came out has two equal branches, whatever went in; a reader that knows pairs of states does not see more.
        case = Case(HiddenGarden(BED, Shear(BED, 1, ((0, "twig", ("fork", (0, 0), (0, 0))),)), Card(BED, "blank")))
        case.looked("a", StumpPicture(BED, ("twig", "*")))
        case.went("a", "b")
        odd = Reader(BED, 2, (("bud", (), 1), ("twig", (1,), 1), ("fork", (0, 1), 1), ("fork", (1, 0), 1)), (1,))
        self.assertIs(case.possible("b", odd), False)
        self.assertIs(case.sure("b", complement(odd)), True)
        self.refused(conflict(2), case.looked, "b", CountPicture(BED, "bud", 2, 1))
        case.looked("b", CountPicture(BED, "bud", 4, 2))
        self.assertIs(case.sure("a", CrownPicture(BED, ("bud",)).as_reader()), True)
        self.assertIs(case.possible("a", odd), True)
        self.assertIs(case.sure("a", odd), False)

    def test_a_name_with_a_source_later(self):
        case = Case(HiddenGarden(BED, SHEAR))
        case.looked("b", whole("leaf"))
        case.looked("a", StumpPicture(BED, ("twig", "twig", "*")))
        self.assertEqual(shape(case.plants("b")), shape(only(BED, ("leaf",))))
        case.went("a", "b")
        self.assertEqual(case.choices(), ((2,),))
        self.refused(named(HasSource, name="b"), case.plants, "b")
        self.assertEqual(case.undo(), "went a b")
        self.assertEqual(shape(case.plants("b")), shape(only(BED, ("leaf",))))
        self.assertEqual(len(case), 3)

    def test_undo_of_the_fact_that_first_mentions_a_name(self):
        case = Case(HiddenGarden(BED, SHEAR))
        case.looked("a", ANY)
        case.went("a", "b")
        case.undo()
        self.refused(named(UnknownName, name="b"), case.possible, "b", everything(BED))
        self.assertIs(case.possible("a", everything(BED)), True)
        case.went("c", "a")
        case.undo()
        self.refused(named(UnknownName, name="c"), case.plants, "c")
        self.assertEqual(shape(case.plants("a")), shape(everything(BED)))

    def test_plants_that_are_refused(self):
        case = Case(GARDEN)
        case.refused("a")
        # Only the choices in which forks of plants without forks are refused are left.
        self.assertEqual(case.choices(), ((1, 0), (1, 1), (1, 2)))
        reader = case.plants("a")
        self.assertEqual([plant for plant in plants_to(BED, 4) if plant in reader][:2],
                         [("fork", "leaf", "leaf"), ("fork", "leaf", "bud")])
        self.refused(conflict(1), case.went, "a", "b")
        self.assertIs(case.sure("a", WindowPicture(BED, ("fork", "*", "*")).as_reader()), True)

    def test_plants_of_a_name_over_all_choices(self):
        case = Case(HiddenGarden(BED, SHEAR))
        case.went("a", "b")
        case.looked("b", whole("fork", "bud", "bud"))
        wanted = any_of(only(BED, ("fork", "bud", "bud")), only(BED, ("twig", "bud")))
        self.assertEqual(shape(case.plants("a")), shape(wanted))


class Copies(YardTest):
    def test_a_copy_goes_its_own_way(self):
        case = Case(GARDEN)
        case.looked("a", whole("twig", "bud"))
        case.went("a", "b")
        other = case.copy()
        self.assertIs(other.garden, GARDEN)
        self.assertIs(other.__class__, Case)
        self.assertEqual((other.facts(), other.choices()), (case.facts(), case.choices()))
        case.looked("b", whole("leaf"))
        self.assertEqual((len(case), len(other)), (2, 6))
        other.looked("b", whole("fork", "bud", "bud"))
        self.assertEqual((case.choices(), other.choices()), (((0, 2), (1, 2)), ((0, 1), (1, 1))))
        other.undo(), other.undo(), other.undo()
        self.assertEqual((case.facts(), other.facts()), (
            ["looked a whole twig(bud)", "went a b", "looked b whole leaf"], []))
        self.refused(named(NothingToUndo), other.undo)
        self.assertEqual((len(case), len(other)), (2, 6))
        self.assertIs(case.sure("b", only(BED, ("leaf",))), True)
        self.refused(named(UnknownName, name="b"), other.sure, "b", everything(BED))


class Sizes(YardTest):
    def test_outcomes_that_are_too_large(self):
        case = Case(HiddenGarden(BED, SHEAR))
        self.assertEqual(case.outcomes_of(chain(3)), (("leaf",), chain(3), ("fork",) + ("fork", "leaf", "leaf") * 2))
        self.refused(KNOTS, case.outcomes_of, chain(20))
        self.refused(KNOTS, case.surely, chain(20))
        self.refused(KNOTS, case.surely, chain(2001))
        self.refused(named(InvalidPlant, place=1), case.surely, ("twig",))
        self.refused(named(InvalidPlant, place=0), case.outcomes_of, ("*",))
        case.looked("a", whole(*chain(20)))
        case.went("a", "b")
        case.looked("b", CountPicture(BED, "fork", 9, 0))
        self.assertEqual(case.choices(), ((0,), (2,)))
        self.assertEqual(case.surely(chain(2000)), ("stump", ("*",)))

    def test_undo_never_counts(self):
        case = Case(HiddenGarden(BED, SHEAR))
        case.looked("a", CountPicture(BED, "twig", 5, 0))
        self.refused(STATES, case.looked, "a", CountPicture(BED, "twig", 9, 0))
        self.assertEqual((case.facts(), case.undo(), case.facts()), (
            ["looked a count twig 0 of 5"], "looked a count twig 0 of 5", []))

    def test_500_choices(self):
        start = time.time()
        options, ends = [tuple([("twig",) * at + (tip,) for at in range(many)]) for tip, many in (("bud", 100), ("leaf", 5))]
        case = Case(HiddenGarden(LINE, HiddenShear(LINE, 1, (), ((0, "bud", options), (0, "leaf", ends)))))
        self.assertEqual(len(case), 500)
        self.assertEqual(case.question(), ("leaf",))
        self.assertEqual(len(case.groups()), 500)
        case.looked("a", WholePicture(LINE, ("twig", "bud")))
        case.went("a", "b")
        case.looked("b", CountPicture(LINE, "twig", 9, 3))
        self.assertEqual(case.open_options(), (tuple(range(2, 100, 9)), (0, 1, 2, 3, 4)))
        self.assertEqual(len(case.outcomes_of(("twig", "bud"))), 11)
        self.assertEqual(case.surely(("twig", "leaf")), ("stump", ("twig", "*")))
        self.assertLess(time.time() - start, 60)

    def test_large_plants_that_are_not_known(self):
        # What came out has more than 2,000 knots in every world.
        double = Shear(BED, 1, ((0, "twig", ("fork", (0, 0), (0, 0))),))
        case = Case(HiddenGarden(BED, double, Card(BED, "blank")))
        case.looked("a", StumpPicture(BED, ("twig",) * 12 + ("*",)))
        case.went("a", "b")
        case.looked("b", CountPicture(BED, "bud", 3, 2 ** 12 % 3))
        self.assertIs(case.possible("b", WindowPicture(BED, ("twig", "*")).as_reader()), False)
        self.assertIs(case.possible("a", only(BED, ("twig",) * 12 + ("bud",))), True)
        self.assertIs(case.sure("b", WindowPicture(BED, ("fork", "*", "*")).as_reader()), True)


class Arguments(YardTest):
    def test_nothing_is_changed(self):
        reader = random_reader(BED, 2, 3)[0]
        before = repr((vars(GARDEN), vars(reader), vars(SHEAR)))
        case = Case(GARDEN)
        case.looked("a", StumpPicture(BED, ("twig", "*")))
        for _ in range(2):
            case.possible("a", reader), case.sure("a", reader), case.groups(), case.outcomes_of(("twig", "bud"))
        try:
            case.always(reader)
        except YardError:
            pass
        self.assertEqual(repr((vars(GARDEN), vars(reader), vars(SHEAR))), before)
