"""Points 88 to 94: a bench on which one plant is worked on step by step."""

import random

from shearyard.beds import Bed
from shearyard.bench import Bench
from shearyard.errors import (
    Changed, InvalidBudget, InvalidName, InvalidPlant, NoPath, NoSpot, NothingToRedo, NothingToUndo, NoTrims, OtherBed,
    Refused, Stopped, TooMany, UnknownDeed, UnknownName, YardError,
)
from shearyard.gardeners import Gardener, Gate, Shear
from shearyard.gardens import Garden
from shearyard.lots import complement, everything, only
from shearyard.pictures import CountPicture, HeightPicture
from shearyard.readers import Reader
from shearyard.trims import Trim, Trims
from tests.checking import YardTest, named
from tests.reference import BED, chain, random_reader

TURNED = Bed(("bud", 0), ("leaf", 0), ("twig", 1), ("fork", 2))
KNOTS = named(TooMany, what="knots", limit=2000)
READERS = named(TooMany, what="readers", limit=4)
OTHER = named(OtherBed)
NONE = named(NoTrims)
UNDO = named(NothingToUndo)
REDO = named(NothingToRedo)
PLANT = ("fork", "twig", "bud", "leaf")
MIRRORED = ("fork", "leaf", "twig", "bud")
MIRROR = Shear.mirror(BED)
TWICE = Shear(BED, 1, ((0, "twig", ("fork", (0, 0), (0, 0))),))
TRIMS = Trims(BED, Trim(BED, ("twig", "*"), (0,)), Trim(BED, ("fork", "*", "bud"), (0,)))
BUDS = CountPicture(BED, "bud", 2, 0).as_reader()
TWIGS = CountPicture(BED, "twig", 3, 0).as_reader()


def changed(place):
    return named(Changed, place=place)


def state(bench):
    """Everything that a bench tells and keeps."""
    return (bench.plant, bench.budget, bench.trims, bench.log(), bench.report(), bench.names(), repr(vars(bench)))


class Deeds(YardTest):
    def test_creation(self):
        bench = Bench(BED, PLANT)
        self.assertEqual((bench.bed, bench.plant, bench.trims, bench.budget), (BED, PLANT, None, 100))
        self.assertEqual((bench.log(), bench.names(), bench.report()), ([], [], "deed      knots"))
        bench = Bench(BED, chain(2000), trims=TRIMS, budget=1)
        self.assertEqual((bench.plant, bench.trims, bench.budget), (chain(2000), TRIMS, 1))

    def test_each_deed(self):
        bench = Bench(BED, PLANT, trims=TRIMS)
        self.assertEqual(bench.shear(MIRROR), MIRRORED)
        self.assertEqual(bench.plant, MIRRORED)
        self.assertEqual(bench.shear(Gate(everything(BED))), MIRRORED)
        self.assertEqual(bench.shear(Gardener(BED, "by")), MIRRORED)
        self.assertEqual(bench.lead(Garden(BED, TWICE, MIRROR)), ("fork", "fork", "bud", "bud", "leaf"))
        self.assertEqual(bench.graft((0, 0), ("twig", "bud")), ("fork", "fork", "twig", "bud", "bud", "leaf"))
        self.assertEqual(bench.cut((0,), 1), ("fork", "twig", "bud", "leaf"))
        self.assertEqual(bench.finish(), ("fork", "bud", "leaf"))
        self.assertEqual(bench.finish(), ("fork", "bud", "leaf"))
        bench.mark("here")
        self.assertEqual(bench.graft((), ("bud",)), ("bud",))
        self.assertEqual(bench.back("here"), ("fork", "bud", "leaf"))
        self.assertEqual(bench.log(), [
            ("shear", 4), ("shear", 4), ("shear", 4), ("lead", 5), ("graft", 6), ("cut", 4), ("finish", 3),
            ("finish", 3), ("graft", 1), ("back", 3),
        ])

    def test_refused_deeds_change_nothing(self):
        bench = Bench(BED, PLANT, trims=TRIMS)
        bench.shear(MIRROR), bench.shear(MIRROR), bench.undo(), bench.mark("oak")
        before = state(bench)
        never = Gate(complement(everything(BED)))
        self.refused(named(Refused, place=0, plant=MIRRORED), bench.shear, never)
        self.refused(named(Refused, place=1, plant=PLANT), bench.lead, Garden(BED, MIRROR, never))
        self.refused(named(NoPath, path=(2,)), bench.cut, (2,), 0)
        self.refused(named(NoPath, path=(2,)), bench.cut, (2,), 7)
        self.refused(named(NoSpot, path=(), index=0), bench.cut, (), 0)
        self.refused(named(NoSpot, path=(), index=7), bench.cut, (), 7)
        self.refused(named(NoPath, path=(-1,)), bench.graft, (-1,), ("rose",))
        self.refused(named(NoPath, path=(-1,)), bench.graft, (-1,), ("rose",) * 2001)
        self.refused(named(InvalidPlant, place=0), bench.graft, (0,), ("rose",))
        self.refused(KNOTS, bench.graft, (0,), ("rose",) * 2001)
        self.refused(KNOTS, bench.graft, (0,), chain(2000))
        self.refused(named(UnknownName, name="elm"), bench.back, "elm")
        self.assertEqual(state(bench), before)
        self.assertEqual(bench.redo(), PLANT)

    def test_large_plants(self):
        bench = Bench(BED, ("leaf",), trims=TRIMS)
        self.assertEqual(bench.graft((), chain(2000)), chain(2000))
        self.assertEqual(bench.shear(MIRROR), chain(2000))
        self.refused(KNOTS, bench.shear, TWICE)
        self.refused(KNOTS, bench.lead, Garden(BED, MIRROR, TWICE))
        self.assertEqual(bench.cut((0,) * 1998, 0), chain(1999))
        self.assertEqual(bench.finish(), ("leaf",))
        self.assertEqual(bench.undo(), chain(1999))
        self.assertEqual(bench.graft((0,) * 1998, chain(2)), chain(2000))
        self.assertEqual(bench.log()[-1], ("graft", 2000))

    def test_without_trims(self):
        bench = Bench(BED, PLANT)
        self.refused(NONE, bench.cut, (7,), -1)
        self.refused(NONE, bench.finish)
        self.assertEqual(bench.log(), [])

    def test_other_beds(self):
        bench = Bench(BED, PLANT)
        self.refused(OTHER, bench.shear, Shear.mirror(TURNED))
        self.refused(OTHER, bench.lead, Garden(TURNED))
        self.refused(OTHER, bench.watch, everything(TURNED))
        for _ in range(4):
            bench.watch(everything(BED))
        self.refused(OTHER, bench.watch, everything(TURNED))
        self.refused(OTHER, Bench, BED, ("rose",), trims=Trims(TURNED), budget=0)

    def test_the_order_of_the_checks(self):
        self.refused(named(InvalidPlant, place=0), Bench, BED, ("rose",), trims=TRIMS, budget=0)
        self.refused(KNOTS, Bench, BED, ("rose",) * 2001, budget=0)
        self.refused(named(InvalidPlant, place=0), Bench, BED, (0,))
        for budget in (0, 101, -1, 10 ** 30):
            self.refused(named(InvalidBudget, value=budget), Bench, BED, PLANT, trims=TRIMS, budget=budget)


class Watching(YardTest):
    def test_deeds_refused_by_a_watched_reader(self):
        bench = Bench(BED, PLANT, trims=TRIMS)
        bench.graft((1,), ("bud",))
        bench.undo()
        bench.mark("here")
        self.assertEqual((bench.watch(TWIGS), bench.watch(BUDS)), (1, 2))
        before = state(bench)
        for place, call, arguments in (
            (0, bench.finish, ()), (0, bench.cut, ((0,), 0)), (1, bench.graft, ((1,), ("bud",))),
            (0, bench.graft, ((), ("leaf",))), (0, bench.shear, (TWICE,)), (0, bench.lead, (Garden(BED, TWICE),)),
            (1, bench.redo, ()),
        ):
            self.refused(changed(place), call, *arguments)
            self.assertEqual(state(bench), before)
        self.assertEqual(bench.shear(MIRROR), MIRRORED)
        self.assertEqual(bench.back("here"), PLANT)
        # The call's other errors come first.
        self.refused(named(NoPath, path=(2,)), bench.graft, (2,), ("leaf",))
        self.refused(named(InvalidPlant, place=0), bench.graft, (), ("rose",))
        self.refused(named(NoSpot, path=(), index=0), bench.cut, (), 0)

    def test_undo_and_redo_refused(self):
        bench = Bench(BED, PLANT)
        bench.graft((1,), ("bud",))
        bench.watch(everything(BED))
        bench.watch(BUDS)
        before = state(bench)
        self.refused(changed(1), bench.undo)
        self.assertEqual(state(bench), before)
        bench.shear(MIRROR)
        self.assertEqual(bench.undo(), ("fork", "twig", "bud", "bud"))
        self.refused(changed(1), bench.undo)
        self.assertEqual(bench.redo(), ("fork", "bud", "twig", "bud"))
        self.refused(REDO, bench.redo)
        empty = Bench(BED, PLANT)
        empty.watch(BUDS)
        self.refused(UNDO, empty.undo)

    def test_states_not_marks_count(self):
        reader = Reader(BED, 3, (("bud", (), 1), ("leaf", (), 2)), (1, 2))
        bench = Bench(BED, ("bud",))
        bench.watch(reader)
        self.refused(changed(0), bench.graft, (), ("leaf",))
        self.refused(changed(0), bench.graft, (), ("twig", "bud"))
        self.assertEqual(bench.graft((), ("bud",)), ("bud",))
        # Equal states of plants that the reader tells apart nowhere else are equal.
        other = Bench(BED, ("twig", "bud"))
        other.watch(reader)
        self.assertEqual(other.graft((), ("fork", "leaf", "bud")), ("fork", "leaf", "bud"))

    def test_four_and_five_readers(self):
        bench = Bench(BED, PLANT)
        self.assertEqual([bench.watch(reader) for reader in (BUDS, BUDS, TWIGS, everything(BED))], [1, 2, 3, 4])
        self.refused(READERS, bench.watch, BUDS)
        self.refused(changed(2), bench.graft, (1,), ("twig", "leaf"))
        self.refused(changed(0), bench.graft, (1,), ("bud",))
        self.assertEqual(bench.log(), [])

    def test_watching_is_never_taken_back(self):
        bench = Bench(BED, PLANT)
        bench.graft((1,), ("leaf",))
        bench.watch(BUDS)
        bench.undo()
        self.refused(changed(0), bench.graft, (), ("leaf",))
        self.assertEqual(bench.redo(), PLANT)


class Undoing(YardTest):
    def test_undo_and_redo(self):
        bench = Bench(BED, PLANT)
        self.refused(UNDO, bench.undo)
        self.refused(REDO, bench.redo)
        plants = [PLANT] + [bench.graft((1,), plant) for plant in (("bud",), ("twig", "leaf"), ("leaf",))]
        self.assertEqual([bench.undo() for _ in range(3)], plants[2::-1])
        self.refused(UNDO, bench.undo)
        self.assertEqual([bench.redo() for _ in range(3)], plants[1:])
        self.refused(REDO, bench.redo)
        self.assertEqual([bench.undo() for _ in range(2)], plants[2:0:-1])
        bench.shear(Shear.keeping(BED))
        self.assertEqual(bench.plant, plants[1])
        # A deed clears what can be redone, also if it leaves the plant unchanged.
        self.refused(REDO, bench.redo)
        self.assertEqual(bench.log(), [("graft", 4), ("shear", 4)])

    def test_refused_deeds_keep_what_can_be_redone(self):
        bench = Bench(BED, PLANT)
        bench.shear(MIRROR)
        bench.undo()
        self.refused(NONE, bench.finish)
        self.refused(named(NoPath, path=(5,)), bench.graft, (5,), PLANT)
        self.refused(named(InvalidName, name=""), bench.back, "")
        bench.mark("oak")
        bench.watch(BUDS)
        bench.change(5)
        self.assertEqual(bench.redo(), MIRRORED)

    def test_redo_leads_to_the_same_plant_as_the_deed(self):
        bench = Bench(BED, PLANT)
        bench.mark("oak")
        bench.graft((), ("bud",))
        bench.back("oak")
        bench.undo()
        bench.mark("oak")
        self.assertEqual(bench.redo(), PLANT)
        self.assertEqual(bench.back("oak"), ("bud",))

    def test_budgets(self):
        for budget in (1, 2, 100):
            bench = Bench(BED, ("leaf",), budget=budget)
            for number in range(120):
                bench.graft((), chain(number + 1))
            self.assertEqual(bench.log(), [("graft", number + 1) for number in range(120)][-budget:])
            for _ in range(budget):
                bench.undo()
            self.assertEqual(bench.plant, chain(120 - budget))
            self.refused(UNDO, bench.undo)
            for _ in range(budget):
                bench.redo()
            self.assertEqual(bench.plant, chain(120))
            self.refused(REDO, bench.redo)

    def test_a_budget_that_is_lowered(self):
        bench = Bench(BED, ("leaf",))
        for number in range(6):
            bench.graft((), chain(number + 2))
        bench.undo(), bench.undo()
        bench.budget = 2
        self.assertEqual((bench.budget, bench.log()), (2, [("graft", 4), ("graft", 5)]))
        # What can be redone stays, and each redone deed lets the oldest one be forgotten.
        self.assertEqual((bench.redo(), bench.log()), (chain(6), [("graft", 5), ("graft", 6)]))
        self.assertEqual((bench.redo(), bench.log()), (chain(7), [("graft", 6), ("graft", 7)]))
        self.refused(REDO, bench.redo)
        self.assertIsNone(bench.change(100))
        self.assertEqual((bench.budget, len(bench.log())), (100, 2))
        bench.undo(), bench.undo()
        self.assertIsNone(bench.change(1))
        self.refused(UNDO, bench.undo)
        self.assertEqual((bench.redo(), bench.redo(), bench.log()), (chain(6), chain(7), [("graft", 7)]))

    def test_invalid_budgets(self):
        bench = Bench(BED, PLANT)
        bench.shear(MIRROR)
        for value in (0, 101, -5, 10 ** 40):
            with self.assertRaises(InvalidBudget) as caught:
                bench.budget = value
            self.assertEqual(caught.exception.value, value)
            self.refused(named(InvalidBudget, value=value), bench.change, value)
        self.assertEqual((bench.budget, bench.log()), (100, [("shear", 4)]))


class Marks(YardTest):
    def test_marks(self):
        bench = Bench(BED, PLANT)
        self.assertIsNone(bench.mark("oak"))
        bench.shear(MIRROR)
        bench.mark("ash")
        bench.mark("oak")
        self.assertEqual(bench.names(), ["oak", "ash"])
        bench.names().clear()
        self.assertEqual(bench.names(), ["oak", "ash"])
        bench.undo()
        self.assertEqual((bench.names(), bench.back("oak"), bench.undo()), (["oak", "ash"], MIRRORED, PLANT))
        bench.mark("eightlet")
        self.assertEqual((bench.names(), bench.log()), (["oak", "ash", "eightlet"], []))

    def test_names(self):
        bench = Bench(BED, PLANT)
        for name in ("", "Oak", "oak1", "ninelette", "o k", "*"):
            self.refused(named(InvalidName, name=name), bench.mark, name)
            self.refused(named(InvalidName, name=name), bench.back, name)
        self.refused(named(UnknownName, name="oak"), bench.back, "oak")
        self.assertEqual(bench.names(), [])


class TryAll(YardTest):
    def test_several_steps(self):
        bench = Bench(BED, PLANT, trims=TRIMS)
        bench.mark("oak")
        self.assertEqual(bench.try_all(
            ("shear", MIRROR), ("lead", Garden(BED, MIRROR)), ("graft", (1,), ("bud",)), ("undo",), ("redo",),
            ("cut", (0,), 0), ("finish",), ("back", "oak"), ("undo",),
        ), ("bud",))
        self.assertEqual(bench.log(), [("shear", 4), ("lead", 4), ("graft", 4), ("cut", 3), ("finish", 1)])
        self.assertEqual((bench.redo(), bench.undo(), bench.undo()), (PLANT, ("bud",), ("fork", "bud", "bud")))

    def test_without_steps(self):
        bench = Bench(BED, PLANT)
        bench.shear(MIRROR)
        bench.undo()
        self.assertEqual((bench.try_all(), bench.redo()), (PLANT, MIRRORED))

    def test_all_or_none(self):
        bench = Bench(BED, PLANT, trims=TRIMS, budget=2)
        for plant in (("bud",), ("leaf",), ("twig", "bud")):
            bench.graft((1,), plant)
        bench.undo()
        bench.mark("oak")
        bench.watch(HeightPicture(BED, 30).as_reader())
        before = state(bench)
        good = (("undo",), ("redo",), ("redo",), ("shear", MIRROR), ("shear", MIRROR), ("shear", MIRROR))
        for step, error, values in (
            (("shear", Gate(complement(everything(BED)))), Refused, None), (("shear", Shear.mirror(TURNED)), OtherBed, {}),
            (("lead", Garden(TURNED)), OtherBed, {}), (("cut", (5,), 0), NoPath, {"path": (5,)}),
            (("cut", (), 0), NoSpot, {"path": (), "index": 0}), (("graft", (5,), ("rose",)), NoPath, {"path": (5,)}),
            (("graft", (), ("rose",)), InvalidPlant, {"place": 0}), (("back", "elm"), UnknownName, {"name": "elm"}),
            (("back", "Elm"), InvalidName, {"name": "Elm"}), (("redo",), NothingToRedo, {}),
            (("graft", (), ("leaf",)), Changed, {"place": 0}),
        ):
            with self.assertRaises(Stopped) as caught:
                bench.try_all(*good, step, ("undo",))
            self.assertEqual(caught.exception.place, 6)
            self.assertIs(caught.exception.__cause__.__class__, error)
            if values is not None:
                self.assertEqual(vars(caught.exception.__cause__), values)
            self.assertEqual(state(bench), before)
        with self.assertRaises(Stopped) as caught:
            bench.try_all(("undo",), ("undo",), ("undo",))
        self.assertEqual((caught.exception.place, caught.exception.__cause__.__class__), (1, NothingToUndo))
        self.assertEqual(state(bench), before)
        self.assertEqual((bench.redo(), bench.undo(), bench.undo()), (
            ("fork", "twig", "bud", "twig", "bud"), ("fork", "twig", "bud", "leaf"), ("fork", "twig", "bud", "bud")))

    def test_a_watched_state_is_compared_step_by_step(self):
        bench = Bench(BED, PLANT)
        bench.watch(BUDS)
        with self.assertRaises(Stopped) as caught:
            # Behind both steps the state would be that of before, but the first one changes it.
            bench.try_all(("graft", (1,), ("bud",)), ("graft", (1,), ("leaf",)))
        self.assertEqual((caught.exception.place, vars(caught.exception.__cause__)), (0, {"place": 0}))
        self.assertEqual(bench.plant, PLANT)

    def test_unknown_deeds_come_before_all_steps(self):
        bench = Bench(BED, PLANT)
        for word in ("mark", "watch", "change", "try_all", "", "Shear", "twin", "names", "log"):
            self.refused(named(UnknownDeed, place=2), bench.try_all, ("shear", Shear.mirror(TURNED)), ("undo",), (word, "oak"),
                         (word,))
        self.assertEqual(bench.log(), [])

    def test_steps_without_trims(self):
        bench = Bench(BED, PLANT)
        for step in (("finish",), ("cut", (), 0)):
            with self.assertRaises(Stopped) as caught:
                bench.try_all(("shear", MIRROR), step)
            self.assertEqual((caught.exception.place, caught.exception.__cause__.__class__), (1, NoTrims))
        self.assertEqual((bench.plant, bench.log()), (PLANT, []))


class Telling(YardTest):
    def test_report(self):
        bench = Bench(BED, ("leaf",), trims=TRIMS)
        bench.graft((), chain(2000))
        bench.finish()
        bench.shear(MIRROR)
        self.assertEqual(bench.report(), "\n".join([
            "deed      knots", "graft      2000", "finish        1", "shear         1",
        ]))
        log = bench.log()
        log.clear()
        self.assertEqual(len(bench.log()), 3)

    def test_twins(self):
        bench = Bench(BED, PLANT, trims=TRIMS, budget=3)
        bench.mark("oak")
        bench.watch(BUDS)
        bench.shear(MIRROR), bench.shear(MIRROR), bench.undo()
        twin = bench.twin()
        self.assertIs(twin.__class__, Bench)
        self.assertEqual(state(twin), state(bench))
        before = state(bench)
        twin.redo(), twin.mark("oak"), twin.mark("ash"), twin.change(1), twin.undo(), twin.watch(TWIGS)
        self.assertEqual(state(bench), before)
        before = state(twin)
        bench.shear(Shear.keeping(BED))
        bench.mark("elm"), bench.change(100)
        self.assertEqual(state(twin), before)
        self.assertEqual((bench.names(), twin.names()), (["oak", "elm"], ["oak", "ash"]))
        self.refused(REDO, bench.redo)
        self.assertEqual(twin.redo(), PLANT)
        self.refused(changed(0), bench.graft, (), ("leaf",))

    def test_arguments_are_not_changed(self):
        before = repr([vars(trim) for trim in TRIMS.trims]) + repr(vars(MIRROR)) + repr(vars(BUDS))
        bench = Bench(BED, PLANT, trims=TRIMS)
        bench.watch(BUDS), bench.shear(MIRROR)
        steps = (("shear", MIRROR), ("undo",))
        bench.try_all(*steps)
        self.assertEqual(steps, (("shear", MIRROR), ("undo",)))
        self.assertEqual(repr([vars(trim) for trim in TRIMS.trims]) + repr(vars(MIRROR)) + repr(vars(BUDS)), before)


class Plain:
    """A bench that keeps everything and works out what can be undone from it."""

    def __init__(self, plant, budget):
        self.plant = plant
        self.budget = budget
        self.done, self.undone = [], []

    def do(self, word, plant):
        self.done, self.undone, self.plant = (self.done + [(word, self.plant, plant)])[-self.budget:], [], plant

    def undo(self):
        word, before, behind = self.done[-1]
        self.done, self.undone, self.plant = self.done[:-1], self.undone + [(word, before, behind)], before

    def redo(self):
        deed = self.undone[-1]
        self.done, self.undone, self.plant = (self.done + [deed])[-self.budget:], self.undone[:-1], deed[2]


class Random(YardTest):
    def test_random_calls(self):
        for seed in range(60):
            dice = random.Random(seed)
            bench, plain = Bench(BED, PLANT, trims=TRIMS, budget=3), Plain(PLANT, 3)
            watched = random_reader(BED, 2, seed)[0]
            bench.watch(watched)
            for _ in range(60):
                self.step(bench, plain, dice, watched)
                self.assertEqual(bench.plant, plain.plant)
                self.assertEqual(bench.log(), [(word, len(plant)) for word, _, plant in plain.done])

    def step(self, bench, plain, dice, watched):
        """Call a random method of both."""
        word = dice.choice(["shear", "graft", "finish", "undo", "redo", "undo", "redo", "change"])
        if word == "change":
            plain.budget = dice.randrange(1, 5)
            plain.done = plain.done[-plain.budget:]
            bench.change(plain.budget)
            return
        plant = dice.choice([("leaf",), ("bud",), ("twig", "bud"), ("fork", "leaf", "bud")])
        arguments = {"shear": (MIRROR,), "graft": ((), plant)}.get(word, ())
        before = bench.plant
        try:
            answer = getattr(bench, word)(*arguments)
        except YardError as error:
            self.assertEqual(bench.plant, before)
            lists = {"undo": plain.done, "redo": plain.undone}
            if isinstance(error, Changed):
                after = plant if word == "graft" else None
                if word in lists:
                    after = lists[word][-1][1 if word == "undo" else 2]
                if after is not None:
                    self.assertNotEqual(watched.state_of(after), watched.state_of(before))
            else:
                self.assertEqual(lists[word], [])
            return
        self.assertEqual((answer, watched.state_of(answer)), (bench.plant, watched.state_of(before)))
        if word in ("undo", "redo"):
            getattr(plain, word)()
        else:
            plain.do(word, answer)


class Gates(YardTest):
    def test_a_gate_lets_a_plant_pass(self):
        bench = Bench(BED, PLANT)
        self.assertEqual(bench.shear(Gate(only(BED, PLANT))), PLANT)
        self.assertEqual(bench.lead(Garden(BED)), PLANT)
        self.assertEqual(bench.log(), [("shear", 4), ("lead", 4)])
        self.assertEqual((bench.undo(), bench.undo()), (PLANT, PLANT))
        self.refused(UNDO, bench.undo)
