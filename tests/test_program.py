"""Points 1 to 5 over the whole program: beds, arguments that are not changed, tuples, certificates, and imports."""

import ast
import os
import unittest

import shearyard
from shearyard.accounts import account
from shearyard.alike import alike_paper, is_alike_paper, parting, same
from shearyard.backward import before
from shearyard.beds import Bed
from shearyard.bench import Bench
from shearyard.canon import canonical, least_in, least_plants
from shearyard.cards import Card, HiddenGarden, HiddenShear
from shearyard.cases import Case
from shearyard.chains import chained
from shearyard.closed import closed_pairs, is_closed
from shearyard.comings import comes_from, outcomes, sources, unmarked
from shearyard.earliness import earliest, sure
from shearyard.errors import OtherBed, YardError
from shearyard.forward import image
from shearyard.gardeners import Gardener, Gate, Shear
from shearyard.gardens import Garden
from shearyard.heavy import heaviest
from shearyard.lots import all_of, any_of, apart, complement, escaped, everything, only, without
from shearyard.oneness import admitted, as_one, one_shear
from shearyard.ordering import any_order, orders, settles, undone
from shearyard.peaking import ends_alike, is_meeting_paper, joined, meetings, peaks, two_ways
from shearyard.pictures import (
    CountPicture, CrownPicture, HeightPicture, Picture, StumpPicture, WholePicture, WindowPicture,
)
from shearyard.plain import plain_breaking, plain_change, plain_parting, plain_two_ends, plain_unmarked
from shearyard.prices import Prices, cheapest, nearest, price
from shearyard.trimlinks import changing, disturbed, finished_reader
from shearyard.trimming import end, ends, fewest, spots, walked, way
from shearyard.trims import Trim, Trims
from shearyard.viewing import left, seen, surely_seen, views
from shearyard.weighing import always, breaking, holds_always, is_span, span
from shearyard.windows import grown, kinds_above, kinds_below, sure_above, sure_below, witness
from tests.checking import YardTest, named
from tests.reference import BED, random_reader

# The same kinds in another order.
TURNED = Bed(("bud", 0), ("leaf", 0), ("twig", 1), ("fork", 2))
OTHER = named(OtherBed)
PLANT = ("fork", "twig", "bud", "leaf")


class Yard:
    """One object of each class over a bed."""

    def __init__(self, bed):
        self.bed = bed
        self.reader = random_reader(bed, 2, 5, 0.9)[0]
        self.all = everything(bed)
        self.gate = Gate(self.all)
        self.shear = Shear(bed, 2, ((0, "fork", ("fork", (1, 1), (0, 0))), (1, "twig", ("twig", "twig", (0, 0)))))
        self.garden = Garden(bed, self.gate, self.shear)
        self.trim = Trim(bed, ("twig", "twig", "*"), ("twig", 0))
        self.trims = Trims(bed, self.trim)
        self.picture = WindowPicture(bed, ("twig", "*"))
        self.prices = Prices(bed, 3, ("leaf", "bud", 1))
        self.card = HiddenShear(bed, 1, (), ((0, "bud", (("bud",), ("leaf",))),))
        self.hidden = HiddenGarden(bed, self.card)
        self.gardener = Gardener(bed, "by")

    def objects(self):
        """All objects but the bed."""
        return [value for name, value in vars(self).items() if name != "bed"]


HERE, THERE = Yard(BED), Yard(TURNED)


def pairs():
    """Calls of all functions and classes that take several objects, as functions of two yards."""
    return {
        "without": lambda one, two: without(one.reader, two.reader),
        "apart": lambda one, two: apart(one.reader, two.reader),
        "escaped": lambda one, two: escaped(one.reader, two.reader),
        "all_of": lambda one, two: all_of(one.reader, one.reader, two.reader),
        "any_of": lambda one, two: any_of(one.reader, two.reader),
        "closed_pairs": lambda one, two: closed_pairs(one.all, two.all),
        "is_closed": lambda one, two: is_closed(one.all, two.all, ((9, 9),)),
        "chained": lambda one, two: chained(one.shear, two.shear),
        "before": lambda one, two: before(one.reader, two.shear),
        "image": lambda one, two: image(one.reader, two.shear),
        "Garden": lambda one, two: Garden(one.bed, two.gate),
        "Garden of many": lambda one, two: Garden(one.bed, *[one.gate] * 8, two.shear),
        "Garden and Garden": lambda one, two: one.garden + two.garden,
        "comes_from": lambda one, two: comes_from(one.garden, two.reader),
        "outcomes": lambda one, two: outcomes(one.garden, two.reader),
        "unmarked": lambda one, two: unmarked(one.garden, two.reader),
        "parting": lambda one, two: parting(one.garden, two.garden),
        "same": lambda one, two: same(one.garden, two.garden),
        "alike_paper": lambda one, two: alike_paper(one.garden, two.garden),
        "is_alike_paper": lambda one, two: is_alike_paper(one.garden, two.garden, ()),
        "orders": lambda one, two: orders(one.bed, *[one.gate] * 4, two.gate),
        "any_order": lambda one, two: any_order(one.bed, one.gate, two.shear),
        "undone": lambda one, two: undone(one.garden, two.garden),
        "Trims": lambda one, two: Trims(one.bed, *[one.trim] * 8, two.trim),
        "changing": lambda one, two: changing(one.trims, two.reader),
        "disturbed": lambda one, two: disturbed(one.shear, two.trims),
        "seen": lambda one, two: seen(one.bed, one.picture, two.picture),
        "views": lambda one, two: views(one.garden, two.picture),
        "surely_seen": lambda one, two: surely_seen(one.garden, two.picture),
        "cheapest": lambda one, two: cheapest(one.prices, ("rose",) * 2001, two.reader),
        "nearest": lambda one, two: nearest(one.prices, one.reader, two.reader),
        "nearest at first": lambda one, two: nearest(one.prices, two.reader, two.reader),
        "HiddenGarden": lambda one, two: HiddenGarden(one.bed, *[one.card] * 9, two.card),
        "HiddenGarden of cards": lambda one, two: HiddenGarden(one.bed, Card(two.bed, "blank")),
        "Case.looked": lambda one, two: Case(one.hidden).looked("A", two.picture),
        "Case.always": lambda one, two: Case(one.hidden).always(two.reader),
        "Case.possible": lambda one, two: Case(one.hidden).possible("A", two.reader),
        "Case.sure": lambda one, two: Case(one.hidden).sure("A", two.reader),
        "Bench": lambda one, two: Bench(one.bed, ("rose",), trims=two.trims, budget=0),
        "Bench.shear": lambda one, two: Bench(one.bed, PLANT).shear(two.gardener),
        "Bench.lead": lambda one, two: Bench(one.bed, PLANT).lead(two.garden),
        "Bench.watch": lambda one, two: Bench(one.bed, PLANT).watch(two.reader),
        "plain_parting": lambda one, two: plain_parting(one.garden, two.garden, 0),
        "plain_unmarked": lambda one, two: plain_unmarked(one.garden, two.reader, 0),
        "plain_change": lambda one, two: plain_change(one.prices, ("rose",), two.reader, 0),
    }


def answers(yard):
    """Answers of the whole program, of which none depends on an earlier one."""
    bed, reader, shear, garden, trims = yard.bed, yard.reader, yard.shear, yard.garden, yard.trims
    weighing = (1, 1, 0, -1, 0, 0, 0, 0, 1)
    stump = ("twig", "*")
    case = Case(yard.hidden)
    case.looked("oak", yard.picture)
    case.went("oak", "ash")
    bench = Bench(bed, PLANT, trims=trims)
    bench.watch(yard.all)
    return {
        "least_plants": least_plants(reader), "least_in": least_in(reader), "table": canonical(reader).table(),
        "closed_pairs": closed_pairs(reader, reader), "image": image(yard.all, Shear.mirror(bed)).table(),
        "outcomes": outcomes(garden, reader), "sources": sources(garden, PLANT).table(), "shear": shear.table(),
        "admitted": admitted(garden).marks, "one_shear": one_shear(garden).table(), "as_one": as_one(garden).gardeners[:0],
        "paper": alike_paper(garden, garden), "sure": sure(shear, 0), "earliest": earliest(shear),
        "orders": orders(bed, shear, yard.gate), "settles": settles(garden, most=1), "stages": garden.stages(PLANT),
        "spots": spots(trims, PLANT), "way": way(trims, PLANT), "end": end(trims, PLANT), "ends": ends(trims, PLANT),
        "fewest": fewest(trims, PLANT), "walked": walked(trims, PLANT, ()), "peaks": peaks(trims),
        "two_ways": two_ways(trims), "meetings": meetings(trims), "joined": joined(trims, PLANT, PLANT),
        "finished": finished_reader(trims).table(), "changing": changing(trims, reader), "disturbed": disturbed(shear, trims),
        "seen": seen(bed, yard.picture).table(), "left": left(reader), "views": views(garden, yard.picture).marks,
        "surely_seen": surely_seen(garden, yard.picture), "account": account(garden, PLANT),
        "above": kinds_above(yard.all, stump), "below": kinds_below(yard.all, stump),
        "sure above": sure_above(yard.all, stump), "sure below": sure_below(yard.all, stump),
        "grown": grown(yard.all, stump), "witness": witness(yard.all, stump), "always": always(garden),
        "holds": holds_always(garden, weighing), "breaking": breaking(garden, weighing), "span": span(garden),
        "heaviest": heaviest(yard.all, (-1, -1, -1, -1)), "price": price(yard.prices, PLANT, ("bud",)),
        "cheapest": cheapest(yard.prices, PLANT, yard.all), "nearest": nearest(yard.prices, reader, reader),
        "menu": yard.card.menu(), "choices": yard.hidden.choices(), "left choices": case.choices(),
        "options": case.open_options(), "groups": case.groups(), "question": case.question(),
        "outcomes of": case.outcomes_of(("bud",)), "surely": case.surely(("bud",)), "plants": case.plants("oak").table(),
        "deed": bench.try_all(("shear", shear), ("finish",), ("undo",)),
        "plain": (plain_parting(garden, garden, 3), plain_unmarked(garden, reader, 3), plain_two_ends(trims, 3),
                  plain_breaking(garden, weighing, 3), plain_change(yard.prices, PLANT, reader, 3)),
    }


def is_frozen(value):
    """Whether a value consists of tuples, texts, integers and None."""
    if isinstance(value, tuple):
        return all(is_frozen(part) for part in value)
    return value is None or isinstance(value, (str, int))


def shown(value, depth=6):
    """An object and what it holds, as a text."""
    if depth and hasattr(value, "__dict__"):
        return f"{value.__class__.__name__}({shown(vars(value), depth - 1)})"
    if isinstance(value, dict):
        return "{" + ", ".join([f"{key!r}: {shown(one, depth - 1)}" for key, one in value.items()]) + "}"
    if isinstance(value, (list, tuple)):
        return f"{value.__class__.__name__}[" + ", ".join([shown(one, depth) for one in value]) + "]"
    return repr(value)


class Beds(YardTest):
    def test_all_functions_of_several_objects(self):
        for name, call in pairs().items():
            with self.subTest(name):
                self.refused(OTHER, call, HERE, THERE)
                self.refused(OTHER, call, THERE, HERE)

    def test_equal_beds_that_are_two_objects(self):
        again = Yard(Bed(*BED.rows))
        for name, call in pairs().items():
            with self.subTest(name):
                try:
                    call(HERE, again)
                except YardError as error:
                    self.assertNotIsInstance(error, OtherBed)


class Answers(YardTest):
    def test_answers_are_tuples_and_the_same_each_time(self):
        first = answers(HERE)
        for name, value in first.items():
            with self.subTest(name):
                self.assertTrue(is_frozen(value))
        self.assertEqual(answers(HERE), first)
        self.assertEqual(answers(Yard(BED)), first)

    def test_nothing_is_changed(self):
        yard = Yard(BED)
        told = [shown(value) for value in yard.objects()]
        answers(yard)
        for call in pairs().values():
            try:
                call(yard, yard)
            except YardError:
                pass
        self.assertEqual([shown(value) for value in yard.objects()], told)

    def test_lists_where_points_say_so(self):
        case = Case(HERE.hidden)
        bench = Bench(BED, PLANT)
        bench.shear(HERE.shear)
        for value in (case.facts(), bench.names(), bench.log()):
            self.assertIs(value.__class__, list)
        self.assertIs(bench.log()[0].__class__, tuple)

    def test_certificates(self):
        self.assertIs(is_closed(HERE.reader, HERE.all, closed_pairs(HERE.reader, HERE.all)), True)
        self.assertIs(is_alike_paper(HERE.garden, HERE.garden, alike_paper(HERE.garden, HERE.garden)), True)
        self.assertIs(is_meeting_paper(HERE.trims, meetings(HERE.trims)), True)
        self.assertIs(is_span(HERE.garden, span(HERE.garden)), True)
        self.assertIs(ends_alike(HERE.trims), True)

    def test_truth_values_are_no_integers(self):
        pictures = [
            Picture(BED), WholePicture(BED, PLANT), StumpPicture(BED, ("*",)), CrownPicture(BED, ("bud",)),
            HERE.picture, CountPicture(BED, "bud", 2, 1), HeightPicture(BED, 3),
        ]
        case = Case(HERE.hidden)
        case.looked("oak", HERE.picture)
        for value in (
            *[picture.fits(PLANT) for picture in pictures], PLANT in HERE.reader, HERE.garden.admits(PLANT),
            same(HERE.garden, HERE.garden), ends_alike(HERE.trims), holds_always(HERE.garden, (0,) * 9), case.settled(),
            case.possible("oak", HERE.all), case.sure("oak", HERE.all), is_span(HERE.garden, ()),
            any_order(BED, HERE.shear, HERE.gate), left(only(BED, PLANT))[0] == "one", left(HERE.all)[3],
        ):
            self.assertIs(value.__class__, bool)
        self.assertEqual(complement(HERE.all).marks, ())


class Package(unittest.TestCase):
    def test_imports(self):
        folder = os.path.dirname(shearyard.__file__)
        for name in sorted(os.listdir(folder)):
            if not name.endswith(".py"):
                continue
            with open(os.path.join(folder, name), encoding="utf-8") as file:
                tree = ast.parse(file.read())
            for node in ast.walk(tree):
                self.assertNotIsInstance(node, ast.Import)
                if isinstance(node, ast.ImportFrom):
                    self.assertEqual(node.level, 0)
                    self.assertIn(node.module.split(".")[0], ("shearyard", "heapq", "itertools", "math"))
                if isinstance(node, ast.Call) and isinstance(node.func, ast.Name):
                    self.assertNotIn(node.func.id, ("open", "print", "input", "eval", "exec", "__import__"))
