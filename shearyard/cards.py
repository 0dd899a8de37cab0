"""Cards: gardeners of which some rows are hidden, and gardens with such cards."""

from shearyard.beds import check_beds
from shearyard.errors import InvalidCard, NoChoice, TooMany
from shearyard.gardeners import Gardener, Gate, Shear, is_result
from shearyard.gardens import Garden
from shearyard.limits import MOST_CARDS, MOST_ENTRIES, MOST_GARDENERS
from shearyard.readers import Reader, are_states
from shearyard.rows import rows_from


def fits_shear(bed, states, head, result):
    """Whether this state and kind with this result may be a row of a shear."""
    state, kind = head
    if not 0 <= state < states or kind not in bed.widths or len(result) > MOST_ENTRIES:
        return False
    return is_result(bed, states, kind, result)


def fits_reader(bed, states, head, state):
    """Whether this kind and these states below with this state may be a row of a reader."""
    kind, below = head
    if kind not in bed.widths or len(below) != bed.widths[kind]:
        return False
    return are_states(states, (*below, state))


def check_options(bed, states, hidden, shown, fits_row):
    """Raise InvalidCard for the first hidden row that has no options, equal ones, or one with which it does not fit.

    The options of a row stand last in it, and what stands before them is its head. `shown` lists the heads of the rows
    that are not hidden; `fits_row` says of a bed and a number of states whether a head and an option are a row there.
    """
    heads = {head: True for head in shown}
    for place, row in enumerate(hidden):
        head, options = row[:-1], row[-1]
        if len(options) == 0 or len(set(options)) < len(options) or head in heads:
            raise InvalidCard(place)
        if not all([fits_row(bed, states, head, option) for option in options]):
            raise InvalidCard(place)
        heads[head] = True


def is_choice(menu, choice):
    """Whether the choice has an index for each part of the menu."""
    return len(choice) == len(menu) and all([0 <= index < many for index, many in zip(choice, menu)])


def menu_of(hidden):
    """The numbers of options of these hidden rows."""
    return tuple([len(row[-1]) for row in hidden])


def chosen_rows(hidden, choice):
    """The hidden rows with the chosen options; raises NoChoice."""
    if not is_choice(menu_of(hidden), choice):
        raise NoChoice(choice)
    return tuple([row[:-1] + (row[-1][index],) for row, index in zip(hidden, choice)])


class Card:
    """The base class; nothing of it is hidden."""

    def __init__(self, bed, name):
        self.bed = bed
        self.name = name

    def menu(self):
        """The numbers of options of the hidden rows."""
        return ()

    def filled(self, choice):
        """The gardener with the chosen options; raises NoChoice."""
        if len(choice) > 0:
            raise NoChoice(choice)
        return Gardener(self.bed, self.name)


class HiddenShear(Card):
    """A shear with hidden rows: a state, a kind, and results of which one is true."""

    def __init__(self, bed, states, rows, hidden, *, start=0, name="hidden shear"):
        # The shear without the hidden rows is created only to be checked.
        Shear(bed, states, rows, start=start, name=name)
        check_options(bed, states, hidden, [(state, kind) for state, kind, _ in rows], fits_shear)
        super().__init__(bed, name)
        self.states = states
        self.rows = rows
        self.hidden = hidden
        self.start = start

    def menu(self):
        """The numbers of options of the hidden rows."""
        return menu_of(self.hidden)

    def filled(self, choice):
        """The shear with the chosen options; raises NoChoice."""
        rows = self.rows + chosen_rows(self.hidden, choice)
        return Shear(self.bed, self.states, rows, start=self.start, name=self.name)


class HiddenGate(Card):
    """A gate whose reader has hidden rows: a kind, states below, and states of which one is true."""

    def __init__(self, bed, states, rows, hidden, marks, *, otherwise=0, name="hidden gate"):
        # The reader without the hidden rows is created only to be checked.
        Reader(bed, states, rows, marks, otherwise=otherwise)
        check_options(bed, states, hidden, [(kind, below) for kind, below, _ in rows], fits_reader)
        super().__init__(bed, name)
        self.states = states
        self.rows = rows
        self.hidden = hidden
        self.marks = marks
        self.otherwise = otherwise

    def menu(self):
        """The numbers of options of the hidden rows."""
        return menu_of(self.hidden)

    def filled(self, choice):
        """The gate with the chosen options; raises NoChoice."""
        rows = self.rows + chosen_rows(self.hidden, choice)
        reader = Reader(self.bed, self.states, rows, self.marks, otherwise=self.otherwise)
        return Gate(reader, name=self.name)


def joined_menu(gardeners):
    """The menus of the cards among these gardeners, one after another."""
    cards = [gardener for gardener in gardeners if isinstance(gardener, Card)]
    return tuple([options for card in cards for options in card.menu()])


class HiddenGarden:
    """A row of gardeners and cards."""

    def __init__(self, bed, *gardeners, name="hidden"):
        check_beds([bed, *[gardener.bed for gardener in gardeners]])
        if len(gardeners) > MOST_GARDENERS:
            raise TooMany("gardeners", MOST_GARDENERS)
        many = 1
        for options in joined_menu(gardeners):
            many = many * options
        if many > MOST_CARDS:
            raise TooMany("cards", MOST_CARDS)
        self.bed = bed
        self.gardeners = gardeners
        self.name = name

    def menu(self):
        """The menus of the cards one after another."""
        return joined_menu(self.gardeners)

    def choices(self):
        """All choices in ascending order."""
        return tuple(rows_from([list(range(options)) for options in self.menu()]))

    def filled(self, choice):
        """The garden with the chosen options; raises NoChoice."""
        if not is_choice(self.menu(), choice):
            raise NoChoice(choice)
        row = []
        used = 0
        for gardener in self.gardeners:
            if isinstance(gardener, Card):
                many = len(gardener.menu())
                row.append(gardener.filled(choice[used:used + many]))
                used = used + many
            else:
                row.append(gardener)
        return Garden(self.bed, *row, name=self.name)
