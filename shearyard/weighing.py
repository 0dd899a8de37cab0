"""Weighings: which weights by kind always agree, before and behind a garden."""

from shearyard.accounts import account_of
from shearyard.errors import InvalidPlant, InvalidWeighing, NoPlant, TooMany
from shearyard.limits import MOST_KNOTS
from shearyard.oneness import admitted, one_shear
from shearyard.plants import check_plant
from shearyard.samples import samples_of
from shearyard.vectors import Basis, crossing_rows, product_sum


class Ledger:
    """The accounts of the admitted plants of a garden.

    `samples` lists, by ascending sizes, samples from whose accounts those of all admitted plants follow; none is more
    than necessary. `rows` are their accounts with -1 behind them, so that a weighing that holds has the product 0.
    """

    def __init__(self, garden):
        self.reader = admitted(garden)
        self.worker = one_shear(garden)
        self.source = samples_of(self.reader, self.worker)
        self.columns = 2 * len(garden.bed.kinds) + 1
        self.samples = []
        self.rows = []
        basis = Basis()
        marked = [(size, (mark, index)) for mark in self.reader.marks
                  for index, size in enumerate(self.source.sizes[mark])]
        for size, (mark, index) in sorted(marked):
            row = [*self.source.counter.account_in(self.source.vectors[mark][index]), -1]
            if basis.take_in(row):
                self.samples.append((size, (mark, index)))
                self.rows.append(row)

    def check_plants(self):
        """Raise NoPlant if no plant is admitted."""
        if len(self.rows) == 0:
            raise NoPlant()

    def plant_at(self, number):
        """The plant of the sample with this number in the list; raises TooMany."""
        size, sample = self.samples[number]
        if size > MOST_KNOTS:
            raise TooMany("knots", MOST_KNOTS)
        return self.source.plant_of(sample)


def always(garden):
    """The weighings in the reduced form from which all others that always hold follow; raises TooMany and NoPlant."""
    ledger = Ledger(garden)
    ledger.check_plants()
    return tuple([tuple(row) for row in crossing_rows(ledger.rows, ledger.columns)])


def check_weighing(bed, weighing):
    """Raise InvalidWeighing if the weighing does not have as many entries as it should."""
    if len(weighing) != 2 * len(bed.kinds) + 1:
        raise InvalidWeighing()


def holds_always(garden, weighing):
    """Whether the weighing holds for every admitted plant; raises InvalidWeighing, TooMany and NoPlant."""
    check_weighing(garden.bed, weighing)
    ledger = Ledger(garden)
    ledger.check_plants()
    return all([product_sum(weighing, row) == 0 for row in ledger.rows])


def breaking(garden, weighing):
    """An admitted plant for which the weighing does not hold, or None; raises InvalidWeighing, TooMany and NoPlant."""
    check_weighing(garden.bed, weighing)
    ledger = Ledger(garden)
    ledger.check_plants()
    for number, row in enumerate(ledger.rows):
        if product_sum(weighing, row) != 0:
            return ledger.plant_at(number)
    return None


def span(garden):
    """Admitted plants such that every weighing that holds for all of them always holds; raises TooMany and NoPlant."""
    ledger = Ledger(garden)
    ledger.check_plants()
    return tuple([ledger.plant_at(number) for number in range(len(ledger.rows))])


def is_span(garden, plants):
    """Whether every weighing that holds for all these plants, which have to be admitted, always holds."""
    if not all([is_plant(garden.bed, plant) for plant in plants]):
        return False
    ledger = Ledger(garden)
    basis = Basis()
    for plant in plants:
        if plant not in ledger.reader:
            return False
        basis.take_in([*account_of(ledger.worker, plant), -1])
    return len(basis.rows) == len(ledger.rows)


def is_plant(bed, plant):
    """Whether the tuple is a plant of at most 2,000 knots."""
    try:
        check_plant(bed, plant)
    except (InvalidPlant, TooMany):
        return False
    return True
