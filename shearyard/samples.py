"""Samples: marked plants from whose accounts those of all marked plants follow."""

from heapq import heapify, heappop, heappush

from shearyard.least import decoded
from shearyard.lots import everything
from shearyard.places import Places, Turns
from shearyard.trees import check_size
from shearyard.vectors import Basis


class Samples:
    """Plants that have a knot over bases at a place, found by ascending sizes.

    Any marked plant comes of bases if its knots, from the root on, take the place of bases one after another. So its
    account follows from those of the plants of up to its size that have a knot over bases at a place. Of these, `taken`
    lists those whose accounts, with -1 behind them, the basis has taken in, as triples (place, kind, states below), and
    `rows` the accounts. Nothing more is tried when the basis has `most` vectors, unless `most` is None.
    """

    def __init__(self, places, basis, most):
        self.taken = []
        self.rows = []
        knots = knots_by_state(places.stock)
        queue = [(place.size + knots[place.state][0][0], number, 0) for number, place in enumerate(places.found)]
        heapify(queue)
        while queue and len(basis.rows) != most:
            _, number, turn = heappop(queue)
            place = places.found[number]
            _, kind, below = knots[place.state][turn]
            row = [*place.account_with(kind, below, None), -1]
            if basis.take_in(row):
                self.taken.append((place, kind, below))
                self.rows.append(row)
            if turn + 1 < len(knots[place.state]):
                heappush(queue, (place.size + knots[place.state][turn + 1][0], number, turn + 1))

    def plant_at(self, index):
        """The plant of the sample with this index; raises TooMany."""
        place, kind, below = self.taken[index]
        code = place.code_with(kind, below)
        check_size(code)
        return decoded(place.stock.reader.bed, code)


def knots_by_state(stock):
    """For each state the knots over bases that have it, by ascending sizes: (size, kind, states below)."""
    found = [[] for _ in stock.sizes]
    for kind, below, result in stock.reader.table():
        found[result].append((1 + sum([stock.sizes[state] for state in below]), kind, below))
    return [sorted(knots) for knots in found]


def samples_of(reader, shear, basis):
    """Samples of a canonical reader's marked plants that the basis takes in, and with which it holds all accounts."""
    turns = Turns(shear)
    # All plants together need no fewer places and samples than the marked ones, and have only one state.
    every = Places(everything(reader.bed), turns, None)
    most = len(Samples(every, Basis(), None).rows)
    return Samples(Places(reader, turns, len(every.found)), basis, most)
