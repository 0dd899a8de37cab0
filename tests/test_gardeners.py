"""Points 26 to 30: gardeners, gates and shears."""

import inspect
import time

from shearyard.beds import Bed
from shearyard.errors import InvalidPlant, InvalidShear, NoState, Refused, TooMany, UnknownKind
from shearyard.gardeners import Gardener, Gate, Shear
from shearyard.lots import everything, only
from shearyard.readers import Reader
from tests.checking import YardTest, named
from tests.gardening import full_rows, out_of, random_rows, random_shear
from tests.reference import BED, TWINS, WIDE, chain, left_comb, plants_to, random_reader, right_comb, shape

KNOTS = named(TooMany, what="knots", limit=2000)
ENTRIES = named(TooMany, what="entries", limit=200)
STATES = named(TooMany, what="states", limit=40)
TWICE = Shear(BED, 1, ((0, "twig", ("fork", (0, 0), (0, 0))),))


def at(place):
    return named(InvalidShear, place=place)


def twigs(many, *last):
    """A result of that many twigs and something else."""
    return ("twig",) * many + last


class Gardeners(YardTest):
    def test_the_base_class(self):
        gardener = Gardener(BED, "idle")
        self.assertIs(gardener.bed, BED)
        self.assertEqual(gardener.name, "idle")
        for plant in plants_to(BED, 3) + [chain(2000), right_comb(999), left_comb(999)]:
            self.assertEqual(gardener.work(plant), plant)
        self.refused(named(InvalidPlant, place=2), gardener.work, ("fork", "leaf"))
        self.refused(KNOTS, gardener.work, ("rose",) * 2001)

    def test_subclasses(self):
        self.assertEqual((Gate.__bases__, Shear.__bases__), ((Gardener,), (Gardener,)))


class Gates(YardTest):
    def test_attributes(self):
        reader, _ = random_reader(BED, 3, 1)
        gate = Gate(reader)
        self.assertIs(gate.reader, reader)
        self.assertIs(gate.bed, reader.bed)
        self.assertEqual((gate.name, Gate(reader, name="north").name), ("gate", "north"))
        with self.assertRaises(TypeError):
            Gate(reader, "north")

    def test_work_by_trying(self):
        passed = 0
        for seed in range(10):
            reader, _ = random_reader(BED, 3, seed)
            gate = Gate(reader)
            for plant in plants_to(BED, 4):
                if plant in reader:
                    self.assertEqual(gate.work(plant), plant)
                    passed += 1
                else:
                    self.refused(named(Refused, place=0, plant=plant), gate.work, plant)
        self.assertGreater(passed, 50)

    def test_plants_are_checked(self):
        gate = Gate(Reader(BED, 1, (), ()))
        self.refused(named(InvalidPlant, place=1), gate.work, ("twig", "*"))
        self.refused(KNOTS, gate.work, chain(2001))
        self.refused(named(Refused, place=0, plant=chain(2000)), gate.work, chain(2000))


class Working(YardTest):
    def test_attributes(self):
        shear = Shear(BED, 3, (), start=2, name="hook")
        self.assertIs(shear.bed, BED)
        self.assertEqual((shear.states, shear.start, shear.name), (3, 2, "hook"))
        shear = Shear(BED, 3, ())
        self.assertEqual((shear.start, shear.name), (0, "shear"))
        with self.assertRaises(TypeError):
            Shear(BED, 3, (), 0)

    def test_by_trying(self):
        copied = dropped = 0
        for bed in (BED, WIDE, TWINS):
            for seed in range(25):
                states = 1 + seed % 3
                rows = random_rows(bed, states, seed)
                shear = Shear(bed, states, rows, start=seed % states)
                copied, dropped = copied + shear.copies, dropped + shear.drops
                results = full_rows(bed, states, rows)
                for plant in plants_to(bed, 4):
                    wanted = out_of(bed, results, shear.start, plant)
                    self.assertEqual(shear(plant), wanted)
                    self.assertEqual(shear.work(plant), wanted)
                    for state in range(states):
                        self.assertEqual(shear.work_from(plant, state), out_of(bed, results, state, plant))
        self.assertGreater(min(copied, dropped), 10)

    def test_rows_left_out_keep_the_kind_and_the_state(self):
        shear = Shear(BED, 2, ((1, "leaf", ("bud",)), (0, "twig", ("twig", (1, 0)))))
        self.assertEqual(shear(("fork", "leaf", "twig", "fork", "leaf", "bud")),
                         ("fork", "leaf", "twig", "fork", "bud", "bud"))

    def test_lone_calls(self):
        shear = Shear(BED, 2, ((0, "twig", ((1, 0),)), (1, "twig", ("twig", (0, 0))), (1, "fork", ((0, 1),))))
        self.assertEqual(shear(("twig", "leaf")), ("leaf",))
        self.assertEqual(shear(chain(6)), chain(3))
        self.assertEqual(shear(("twig", "fork", "bud", "leaf")), ("leaf",))

    def test_branches_that_are_called_never_once_and_twice(self):
        rows = ((0, "fork", ("fork", (0, 1), (1, 1))), (1, "twig", ("leaf",)))
        self.assertEqual(Shear(BED, 2, rows)(("fork", "bud", "twig", "bud")), ("fork", "twig", "bud", "leaf"))

    def test_a_shear_never_refuses(self):
        for seed in range(10):
            shear = random_shear(WIDE, 2, seed)
            for plant in plants_to(WIDE, 4):
                self.assertIsInstance(shear(plant), tuple)

    def test_long_plants(self):
        mirror = Shear.mirror(BED)
        for plant, wanted in (
            (chain(2000), chain(2000)), (right_comb(999), left_comb(999)), (left_comb(999), right_comb(999)),
        ):
            self.assertEqual(Shear.keeping(BED)(plant), plant)
            self.assertEqual(mirror(plant), wanted)
        self.assertEqual(Shear(BED, 1, ((0, "twig", ((0, 0),)),))(chain(2000)), ("leaf",))

    def test_2000_and_2001_knots_come_out(self):
        longer = Shear(BED, 1, ((0, "leaf", twigs(1, "leaf")),))
        self.assertEqual(longer(chain(1999)), chain(2000))
        for call in (longer, longer.work):
            self.refused(KNOTS, call, chain(2000))
        self.refused(KNOTS, longer.work_from, chain(2000), 0)
        rows = ((0, "twig", twigs(199, (0, 0))), (0, "leaf", twigs(9, "leaf")), (0, "bud", twigs(10, "leaf")))
        self.assertEqual(Shear(BED, 1, rows)(chain(11)), chain(2000))
        self.refused(KNOTS, Shear(BED, 1, rows), chain(11, "bud"))

    def test_doubling_beyond_all_bounds(self):
        begun = time.perf_counter()
        self.assertEqual(len(TWICE(chain(10))), 1023)
        self.refused(KNOTS, TWICE, chain(11))
        self.refused(KNOTS, TWICE, chain(2000))
        self.assertLess(time.perf_counter() - begun, 5)

    def test_chains_of_lone_calls_that_are_reached_often(self):
        rows = [(state, "twig", ("fork", (state + 1, 0), (state + 1, 0))) for state in range(9)]
        rows.append((9, "twig", ((9, 0),)))
        begun = time.perf_counter()
        self.assertEqual(len(Shear(BED, 10, tuple(rows))(chain(2000))), 1023)
        self.assertLess(time.perf_counter() - begun, 5)

    def test_arguments_are_checked_in_order(self):
        self.refused(named(InvalidPlant, place=2), TWICE.work_from, ("fork", "leaf"), 7)
        self.refused(KNOTS, TWICE.work_from, chain(2001), 7)
        for state in (-1, 1, 7, 10 ** 30):
            self.refused(named(NoState, state=state), TWICE.work_from, ("leaf",), state)
        for call in (TWICE, TWICE.work):
            self.refused(named(InvalidPlant, place=0), call, ("*",))
            self.refused(KNOTS, call, ("rose",) * 2001)


class Checks(YardTest):
    def test_states(self):
        self.assertEqual(Shear(BED, 40, (), start=39).states, 40)
        self.refused(STATES, Shear, BED, 41, ((0, "rose", ()),), start=99)
        self.refused(at(-1), Shear, BED, 0, ((0, "rose", ()),), start=99)
        self.refused(at(-1), Shear, BED, -3, ())

    def test_start(self):
        for start in (2, -1, 99):
            self.refused(at(-2), Shear, BED, 2, (), start=start)
        self.refused(at(0), Shear, BED, 2, ((0, "rose", ("leaf",)),), start=2)

    def test_states_and_kinds_of_rows(self):
        good = (0, "twig", ((1, 0),))
        for bad in (
            (2, "twig", ("leaf",)), (-1, "twig", ("leaf",)), (0, "rose", ("leaf",)), (0, "*", ("leaf",)),
            (0, "twig", ("leaf",)),
        ):
            self.refused(at(1), Shear, BED, 2, (good, bad))
            self.refused(at(1), Shear, BED, 2, (good, bad, (9, "rose", ())), start=5)
        self.assertEqual(Shear(BED, 2, (good, (1, "twig", ("leaf",)))).step(1, "twig"), ("leaf",))

    def test_results(self):
        for kind, bad in (
            ("twig", ()), ("twig", ("twig",)), ("twig", ("leaf", "leaf")), ("twig", ("fork", "leaf")),
            ("twig", ("rose",)), ("twig", ("*",)), ("twig", ("twig", "*")), ("twig", (0,)),
            ("twig", ((2, 0),)), ("twig", ((-1, 0),)), ("twig", ((0, 1),)), ("twig", ((0, -1),)),
            ("leaf", ((0, 0),)), ("leaf", ("twig", (1, 0))), ("fork", ("fork", (0, 0), (0, 2))),
            ("fork", ((0, 0), (0, 1))), ("fork", ("leaf", (0, 0))), ("fork", ((0, 0), "leaf")),
        ):
            with self.subTest(kind=kind, bad=bad):
                self.refused(at(0), Shear, BED, 2, ((1, kind, bad),))

    def test_200_and_201_entries(self):
        good = (0, "twig", twigs(199, (0, 0)))
        self.assertEqual(len(Shear(BED, 1, (good,)).step(0, "twig")), 200)
        self.refused(ENTRIES, Shear, BED, 1, ((0, "twig", twigs(200, (0, 0))),))
        self.refused(ENTRIES, Shear, BED, 1, ((7, "rose", ("rose",) * 201),))
        self.refused(at(0), Shear, BED, 1, ((7, "rose", ("rose",) * 200),))

    def test_rows_are_checked_one_after_another(self):
        large, bad = (0, "bud", ("leaf",) * 201), (0, "bud", ("leaf",) * 2)
        self.refused(ENTRIES, Shear, BED, 1, (large, bad), start=3)
        self.refused(at(0), Shear, BED, 1, (bad, large), start=3)
        self.refused(ENTRIES, Shear, BED, 1, ((0, "twig", ((0, 0),)), large))

    def test_the_arguments_do_not_change(self):
        rows = random_rows(BED, 2, 3)
        before = (str(rows), BED.rows)
        shear = Shear(BED, 2, rows)
        for plant in plants_to(BED, 3):
            shear(plant)
        self.assertEqual((str(rows), BED.rows), before)


class Rows(YardTest):
    def test_step(self):
        shear = Shear(BED, 2, ((1, "fork", ((0, 1),)),))
        self.assertEqual(shear.step(1, "fork"), ((0, 1),))
        self.assertEqual(shear.step(0, "fork"), ("fork", (0, 0), (0, 1)))
        self.assertEqual(shear.step(1, "twig"), ("twig", (1, 0)))
        self.assertEqual(shear.step(1, "leaf"), ("leaf",))

    def test_step_checks_in_order(self):
        for state in (-1, 1, 10 ** 30):
            self.refused(named(NoState, state=state), TWICE.step, state, "rose")
        self.refused(named(UnknownKind, kind="rose"), TWICE.step, 0, "rose")
        self.refused(named(UnknownKind, kind="*"), TWICE.step, 0, "*")

    def test_table(self):
        for bed in (BED, WIDE):
            for seed in range(10):
                rows = random_rows(bed, 3, seed)
                wanted = full_rows(bed, 3, rows)
                self.assertEqual(Shear(bed, 3, rows).table(), tuple([
                    (state, kind, wanted[state, kind]) for state in range(3) for kind in bed.kinds
                ]))

    def test_reached(self):
        rows = ((3, "twig", ((1, 0),)), (1, "fork", ("fork", (1, 0), (4, 1))), (0, "twig", ((2, 0),)))
        self.assertEqual(Shear(BED, 6, rows, start=3).reached(), (1, 3, 4))
        self.assertEqual(Shear(BED, 6, rows).reached(), (0, 2))
        self.assertEqual(Shear(BED, 6, rows, start=5).reached(), (5,))
        self.assertEqual(Shear(BED, 40, tuple([(at, "twig", ((at + 1, 0),)) for at in range(39)])).reached(),
                         tuple(range(40)))

    def test_reached_by_a_row_that_is_left_out(self):
        leaves = tuple([(state, "leaf", ("bud",)) for state in range(2)])
        self.assertEqual(Shear(BED, 2, leaves, start=1).reached(), (1,))
        self.assertEqual(Shear(BED, 2, ((1, "twig", ((0, 0),)), (1, "fork", ((0, 0),)))).reached(), (0,))

    def test_copies(self):
        for result, wanted in (
            (("fork", (0, 0), (0, 1)), False), (("fork", (0, 1), (0, 0)), False), (("leaf",), False),
            (("fork", (0, 1), (0, 1)), True), (("fork", (0, 1), (1, 1)), True), (((0, 0),), False),
            (("fork", (0, 0), "fork", (0, 1), (1, 0)), True),
        ):
            self.assertIs(Shear(BED, 2, ((0, "fork", result),)).copies, wanted)
        self.assertIs(TWICE.copies, True)

    def test_drops(self):
        for result, wanted in (
            (("fork", (0, 0), (0, 1)), False), (("fork", (0, 1), (0, 0)), False), (("leaf",), True),
            (("fork", (0, 1), (0, 1)), True), (((0, 0),), True), (("fork", (0, 0), "leaf"), True),
            (("fork", (0, 0), "fork", (0, 1), (1, 0)), False),
        ):
            self.assertIs(Shear(BED, 2, ((0, "fork", result),)).drops, wanted)
        self.assertIs(TWICE.drops, False)

    def test_only_reached_states_count(self):
        rows = ((1, "fork", ("fork", (1, 1), (1, 1))),)
        for start, wanted in ((0, False), (1, True)):
            shear = Shear(BED, 2, rows, start=start)
            self.assertIs(shear.copies, wanted)
            self.assertIs(shear.drops, wanted)


class Ready(YardTest):
    def test_keeping(self):
        for bed in (BED, WIDE):
            shear = Shear.keeping(bed)
            self.assertIsInstance(shear, Shear)
            self.assertIs(shear.bed, bed)
            self.assertEqual((shear.states, shear.start, shear.name), (1, 0, "keep"))
            self.assertEqual((shear.copies, shear.drops), (False, False))
            for plant in plants_to(bed, 5):
                self.assertEqual(shear(plant), plant)

    def test_mirror(self):
        for bed in (BED, WIDE):
            shear = Shear.mirror(bed)
            self.assertIsInstance(shear, Shear)
            self.assertEqual((shear.states, shear.start, shear.name), (1, 0, "mirror"))
            self.assertEqual((shear.copies, shear.drops), (False, False))
            self.assertEqual(shear.table(), tuple([
                (0, kind, (kind, *[(0, place) for place in range(many)][::-1])) for kind, many in bed.rows
            ]))
            for plant in plants_to(bed, 5):
                self.assertEqual(shear(shear(plant)), plant)
        self.assertEqual(Shear.mirror(WIDE)(("tri", "bud", "stem", "knob", "knob")),
                         ("tri", "knob", "stem", "knob", "bud"))

    def test_class_methods_and_properties(self):
        for name in ("keeping", "mirror"):
            self.assertIsInstance(vars(Shear)[name], classmethod)
            self.assertEqual(str(inspect.signature(getattr(Shear, name))), "(bed)")
        for name in ("copies", "drops"):
            self.assertIsInstance(vars(Shear)[name], property)

    def test_gates_of_readers_of_lots(self):
        self.assertEqual(Gate(everything(BED)).work(("bud",)), ("bud",))
        self.refused(named(Refused, place=0, plant=("bud",)), Gate(only(BED, ("leaf",))).work, ("bud",))
        self.assertEqual(shape(Gate(only(BED, ("leaf",))).reader), shape(only(BED, ("leaf",))))

    def test_a_bed_with_one_kind(self):
        bed = Bed(("leaf", 0))
        self.assertEqual(Shear.mirror(bed)(("leaf",)), ("leaf",))
        self.assertEqual(Shear.keeping(bed).table(), ((0, "leaf", ("leaf",)),))
