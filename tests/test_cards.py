"""Points 77 to 80: cards with hidden rows, and gardens with such cards."""

from itertools import product

from shearyard.beds import Bed
from shearyard.cards import Card, HiddenGarden, HiddenGate, HiddenShear
from shearyard.errors import InvalidCard, InvalidReader, InvalidShear, NoChoice, OtherBed, TooMany
from shearyard.gardeners import Gardener, Gate, Shear
from shearyard.gardens import Garden
from shearyard.lots import everything
from tests.checking import YardTest, named
from tests.reference import BED, WIDE, plants_to

TURNED = Bed(("bud", 0), ("leaf", 0), ("twig", 1), ("fork", 2))
STATES = named(TooMany, what="states", limit=40)
ENTRIES = named(TooMany, what="entries", limit=200)
GARDENERS = named(TooMany, what="gardeners", limit=8)
CARDS = named(TooMany, what="cards", limit=500)
OTHER = named(OtherBed)

TWIGS = (("twig", (0, 0)), ("fork", (0, 0), (1, 0)), ("leaf",))
BUDS = (("bud",), ("leaf",))
SHEAR_ROWS = ((0, "fork", ("fork", (0, 1), (0, 0))), (1, "leaf", ("bud",)))
SHEAR = HiddenShear(BED, 2, SHEAR_ROWS, ((0, "twig", TWIGS), (1, "bud", BUDS)))
GATE_ROWS = (("bud", (), 1), ("twig", (1,), 1))
GATE = HiddenGate(BED, 2, GATE_ROWS, (("fork", (0, 1), (0, 1)), ("fork", (1, 0), (1, 0))), (1,))


def no_choice(choice):
    return named(NoChoice, choice=choice)


def invalid(place):
    return named(InvalidCard, place=place)


class HiddenShears(YardTest):
    def test_filled(self):
        self.assertEqual(SHEAR.menu(), (3, 2))
        for choice in product(range(3), range(2)):
            shear = SHEAR.filled(choice)
            rows = SHEAR_ROWS + ((0, "twig", TWIGS[choice[0]]), (1, "bud", BUDS[choice[1]]))
            self.assertIs(shear.__class__, Shear)
            self.assertEqual(shear.table(), Shear(BED, 2, rows).table())
            self.assertEqual((shear.bed, shear.name, shear.start, shear.states), (BED, "hidden shear", 0, 2))

    def test_name_and_start(self):
        card = HiddenShear(BED, 3, (), ((2, "bud", BUDS),), start=2, name="blade")
        shear = card.filled((1,))
        self.assertEqual((card.name, shear.name, shear.start, shear.states), ("blade", "blade", 2, 3))
        self.assertEqual(shear(("bud",)), ("leaf",))

    def test_without_hidden_rows_and_with_one_option(self):
        card = HiddenShear(BED, 1, ((0, "bud", ("leaf",)),), ())
        self.assertEqual((card.menu(), card.hidden), ((), ()))
        self.assertEqual(card.filled(())(("twig", "bud")), ("twig", "leaf"))
        one = HiddenShear(BED, 1, (), ((0, "bud", (("leaf",),)),))
        self.assertEqual((one.menu(), one.filled((0,))(("bud",))), ((1,), ("leaf",)))

    def test_no_choice(self):
        for choice in ((), (0,), (0, 0, 0), (3, 0), (0, 2), (-1, 0), (0, -1), (10 ** 30, 0)):
            self.refused(no_choice(choice), SHEAR.filled, choice)

    def test_the_checks_of_a_shear_come_first(self):
        wrong = ((0, "rose", ()),)
        self.refused(STATES, HiddenShear, BED, 41, ((9, "rose", ()),), wrong, start=-1)
        self.refused(named(InvalidShear, place=-1), HiddenShear, BED, 0, ((9, "rose", ()),), wrong)
        self.refused(ENTRIES, HiddenShear, BED, 1, ((9, "rose", ("bud",) * 201),), wrong)
        self.refused(named(InvalidShear, place=1), HiddenShear, BED, 1,
                     ((0, "bud", ("leaf",)), (0, "bud", ("leaf",))), wrong)
        self.refused(named(InvalidShear, place=-2), HiddenShear, BED, 2, (), wrong, start=2)

    def test_hidden_rows(self):
        good = (0, "bud", BUDS)
        for wrong in (
            (0, "twig", ()), (0, "twig", (("leaf",), ("leaf",))), (0, "twig", (("leaf",), ("bud",), ("leaf",))),
            (1, "twig", BUDS), (-1, "twig", BUDS), (0, "rose", BUDS), (0, "bud", BUDS), (0, "leaf", BUDS),
            (0, "twig", (("leaf",), ("twig",))), (0, "twig", (("leaf",), ("rose",))), (0, "twig", (("leaf",), ())),
            (0, "twig", (("leaf",), ((1, 0),))), (0, "twig", (((0, 0),), ((0, 1),))), (0, "twig", (((0, -1),),)),
            (0, "twig", (("leaf",), ("leaf", "leaf"))), (0, "twig", (("twig",) * 200 + ("leaf",), ("leaf",))),
            (0, "fork", (("fork", (0, 0), (0, 2)), ("leaf",))),
        ):
            rows = ((0, "leaf", ("bud",)),)
            self.refused(invalid(1), HiddenShear, BED, 1, rows, (good, wrong))
            self.refused(invalid(1), HiddenShear, BED, 1, rows, (good, wrong, wrong))
            self.refused(invalid(1 if wrong[:2] == good[:2] else 0), HiddenShear, BED, 1, rows, (wrong, good))

    def test_options_of_200_and_201_entries(self):
        long = ("twig",) * 199 + ("leaf",)
        card = HiddenShear(BED, 1, (), ((0, "bud", (("bud",), long)),))
        self.assertEqual(card.filled((1,))(("bud",)), long)
        self.refused(invalid(0), HiddenShear, BED, 1, (), ((0, "bud", (("bud",), ("twig",) + long)),))

    def test_attributes(self):
        self.assertEqual((SHEAR.bed, SHEAR.states, SHEAR.name), (BED, 2, "hidden shear"))
        self.assertEqual(SHEAR.hidden, ((0, "twig", TWIGS), (1, "bud", BUDS)))
        self.assertIsInstance(SHEAR, Card)


class HiddenGates(YardTest):
    def test_filled(self):
        self.assertEqual(GATE.menu(), (2, 2))
        for first, second in product(range(2), repeat=2):
            gate = GATE.filled((first, second))
            self.assertIs(gate.__class__, Gate)
            self.assertEqual((gate.bed, gate.name), (BED, "hidden gate"))
            rows = GATE_ROWS + (("fork", (0, 1), first), ("fork", (1, 0), 1 - second))
            table = {(kind, below): state for kind, below, state in rows}
            self.assertEqual(gate.reader.table(), tuple([
                (kind, below, table.get((kind, below), 0)) for kind, many in BED.rows
                for below in product(range(2), repeat=many)
            ]))
            self.assertEqual((gate.reader.states, gate.reader.marks), (2, (1,)))

    def test_name_and_otherwise(self):
        card = HiddenGate(BED, 3, (), (("bud", (), (0, 1)),), (1, 2), otherwise=2, name="door")
        gate = card.filled((0,))
        self.assertEqual((card.name, gate.name, gate.reader.marks), ("door", "door", (1, 2)))
        self.assertEqual([plant in gate.reader for plant in (("bud",), ("leaf",), ("twig", "bud"))], [False, True, True])
        self.assertIs(("bud",) in card.filled((1,)).reader, True)

    def test_no_choice(self):
        for choice in ((), (0,), (0, 0, 0), (2, 0), (0, 2), (-1, 0)):
            self.refused(no_choice(choice), GATE.filled, choice)

    def test_the_checks_of_a_reader_come_first(self):
        wrong = (("rose", (), ()),)
        self.refused(STATES, HiddenGate, BED, 41, (("rose", (), 0),), wrong, (9,))
        self.refused(named(InvalidReader, place=-1), HiddenGate, BED, 0, (("rose", (), 0),), wrong, (9,))
        self.refused(named(InvalidReader, place=0), HiddenGate, BED, 1, (("rose", (), 0),), wrong, (9,))
        self.refused(named(InvalidReader, place=-2), HiddenGate, BED, 1, (), wrong, (9,), otherwise=5)
        self.refused(named(InvalidReader, place=-3), HiddenGate, BED, 1, (), wrong, (0,), otherwise=5)

    def test_hidden_rows(self):
        good = ("bud", (), (0, 1))
        for wrong in (
            ("twig", (0,), ()), ("twig", (0,), (1, 1)), ("twig", (0,), (0, 1, 0)), ("twig", (0,), (0, 2)),
            ("twig", (0,), (-1, 0)), ("twig", (2,), (0, 1)), ("twig", (), (0, 1)), ("twig", (0, 0), (0, 1)),
            ("rose", (), (0, 1)), ("bud", (), (0,)), ("leaf", (), (0, 1)),
        ):
            rows = (("leaf", (), 1),)
            self.refused(invalid(1), HiddenGate, BED, 2, rows, (good, wrong), (1,))
            self.refused(invalid(1), HiddenGate, BED, 2, rows, (good, wrong, wrong), (1,))
            self.refused(invalid(1 if wrong[:2] == good[:2] else 0), HiddenGate, BED, 2, rows, (wrong, good), (1,))

    def test_attributes(self):
        self.assertEqual((GATE.bed, GATE.states, GATE.name), (BED, 2, "hidden gate"))
        self.assertEqual(GATE.hidden, (("fork", (0, 1), (0, 1)), ("fork", (1, 0), (1, 0))))
        self.assertIsInstance(GATE, Card)


class Cards(YardTest):
    def test_base_class(self):
        card = Card(BED, "blank")
        self.assertEqual((card.bed, card.name, card.menu()), (BED, "blank", ()))
        gardener = card.filled(())
        self.assertIs(gardener.__class__, Gardener)
        self.assertEqual((gardener.bed, gardener.name), (BED, "blank"))
        self.refused(no_choice((0,)), card.filled, (0,))


class HiddenGardens(YardTest):
    def test_choices_and_menu(self):
        garden = HiddenGarden(BED, SHEAR, Shear.mirror(BED), Card(BED, "blank"), GATE)
        self.assertEqual(garden.menu(), (3, 2, 2, 2))
        self.assertEqual(garden.choices(), tuple(product(range(3), range(2), range(2), range(2))))
        self.assertEqual((garden.bed, len(garden.gardeners), garden.name), (BED, 4, "hidden"))

    def test_filled(self):
        garden = HiddenGarden(BED, SHEAR, Shear.mirror(BED), Card(BED, "blank"), GATE, name="plot")
        for choice in garden.choices():
            filled = garden.filled(choice)
            self.assertIs(filled.__class__, Garden)
            self.assertEqual((filled.bed, filled.name), (BED, "plot"))
            self.assertEqual([gardener.name for gardener in filled.gardeners],
                             ["hidden shear", "mirror", "blank", "hidden gate"])
            wanted = Garden(BED, SHEAR.filled(choice[:2]), Shear.mirror(BED), GATE.filled(choice[2:]))
            for plant in plants_to(BED, 4):
                self.assertIs(filled.admits(plant), wanted.admits(plant))
                if wanted.admits(plant):
                    self.assertEqual(filled(plant), wanted(plant))

    def test_nothing_hidden(self):
        for garden in (HiddenGarden(BED), HiddenGarden(BED, Shear.mirror(BED), Card(BED, "blank"))):
            self.assertEqual((garden.menu(), garden.choices()), ((), ((),)))
            self.assertEqual(len(garden.filled(())), len(garden.gardeners))
            self.refused(no_choice((0,)), garden.filled, (0,))

    def test_no_choice(self):
        garden = HiddenGarden(BED, SHEAR, GATE)
        for choice in ((), (0, 0, 0), (0,) * 5, (3, 0, 0, 0), (0, 0, 0, 2), (0, 0, -1, 0)):
            self.refused(no_choice(choice), garden.filled, choice)

    def test_checks(self):
        other = Gate(everything(TURNED))
        self.refused(OTHER, HiddenGarden, BED, other)
        self.refused(OTHER, HiddenGarden, BED, *[Card(BED, "blank")] * 8, Card(TURNED, "blank"))
        self.refused(OTHER, HiddenGarden, WIDE, Card(BED, "blank"))
        self.assertEqual(len(HiddenGarden(BED, *[Card(BED, "blank")] * 8).gardeners), 8)
        self.refused(GARDENERS, HiddenGarden, BED, *[Card(BED, "blank")] * 9)

    def test_500_choices_and_more(self):
        def card(many):
            options = tuple([("twig",) * at + ("leaf",) for at in range(many)])
            return HiddenShear(BED, 1, (), ((0, "bud", options),))
        for many in ((5, 100), (4, 5, 5, 5), (500 // 4, 4)):
            self.assertEqual(len(HiddenGarden(BED, *[card(one) for one in many]).choices()), 500)
        for many in ((3, 167), (8, 9, 7), (100, 100, 100, 100, 100, 100, 100, 100)):
            self.refused(CARDS, HiddenGarden, BED, *[card(one) for one in many])
        self.refused(GARDENERS, HiddenGarden, BED, *[card(100)] * 9)
        self.refused(OTHER, HiddenGarden, BED, *[card(100)] * 9, Card(TURNED, "blank"))

    def test_nothing_is_changed(self):
        garden = HiddenGarden(BED, SHEAR, GATE)
        before = repr((vars(garden), vars(SHEAR), vars(GATE)))
        for choice in garden.choices():
            garden.filled(choice)(("leaf",)) if garden.filled(choice).admits(("leaf",)) else None
        self.assertEqual(repr((vars(garden), vars(SHEAR), vars(GATE))), before)
