"""Places: where branches stand in the plants that a reader marks, told by how often a shear works them there."""

from heapq import heappop, heappush

from shearyard.bases import Bases
from shearyard.vectors import Basis, added
from shearyard.working import calls_of


class Turns:
    """What a shear does at a knot, for its reached states in ascending order.

    `heads` lists for each kind the numbers of knots by kind that each state makes of it, and `calls` for each kind and
    branch the pairs of a state that calls the branch and of the state called, told by their places in that order.
    """

    def __init__(self, shear):
        reached = shear.reached()
        self.kinds = shear.bed.kinds
        self.many = len(reached)
        self.start = reached.index(shear.start)
        self.heads = {kind: [] for kind in self.kinds}
        self.calls = {kind: [[] for _ in range(width)] for kind, width in shear.bed.rows}
        for place, state in enumerate(reached):
            for kind, result in shear.results[state].items():
                self.heads[kind].append([result.count(other) for other in self.kinds])
                for called, branch in calls_of(result):
                    self.calls[kind][branch].append((place, reached.index(called)))

    def times_above(self, times, kind, branch):
        """How often each state works a branch of a knot of this kind, if the knot is worked so often."""
        found = [0 for _ in times]
        for caller, called in self.calls[kind][branch]:
            found[called] += times[caller]
        return found

    def unit(self, place):
        """The numbers of times with 1 for the state at this place."""
        return [1 if other == place else 0 for other in range(self.many)]

    def knot_account(self, times, kind):
        """The account of a knot without its branches, if it is worked so often."""
        own = [1 if other == kind else 0 for other in self.kinds]
        return own + weighted(times, self.heads[kind])


def weighted(times, rows):
    """The sum of the rows, each as often as `times` says."""
    total = [0 for _ in rows[0]]
    for many, row in zip(times, rows):
        if many != 0:
            total = [one + many * other for one, other in zip(total, row)]
    return total


class Stock:
    """The bases of a canonical reader's states: their knots by kind, and what each state of a shear makes of them."""

    def __init__(self, reader, turns):
        self.reader = reader
        self.turns = turns
        self.bases = Bases(reader)
        self.sizes = [len(code) for code in self.bases.codes]
        self.counts = [[] for _ in self.sizes]
        self.outs = [[] for _ in self.sizes]
        # The branches of a base are lesser bases, so theirs are known before.
        for state in sorted(list(range(reader.states)), key=lambda one: self.sizes[one]):
            code = self.bases.codes[state]
            kind, below = self.bases.roots[state]
            self.counts[state] = [code.count(rank) for rank in range(len(turns.kinds))]
            self.outs[state] = [self.out_of(turns.unit(place), kind, below) for place in range(turns.many)]

    def out_of(self, times, kind, below):
        """The knots by kind that come out of a knot over these bases, if it is worked so often."""
        total = weighted(times, self.turns.heads[kind])
        for branch, state in enumerate(below):
            total = added(total, weighted(self.turns.times_above(times, kind, branch), self.outs[state]))
        return total

    def account_of_base(self, times, state):
        """The account of the base of a state, if it is worked so often."""
        return self.counts[state] + weighted(times, self.outs[state])


class Place:
    """A place for a branch in a plant that the reader marks; all other branches of that plant are bases.

    `state` is the reader's state of the branch, `size` counts the knots beside it, and `times` says how often each
    state of the shear works it. `origin` is None at the root, otherwise the knot that bears the branch: its place, its
    kind, the states of its branches, and which of them this is. `rest` is the account of the knots beside the branch.
    """

    def __init__(self, stock, state, size, times, origin):
        self.stock = stock
        self.state = state
        self.size = size
        self.times = times
        self.origin = origin
        self.known = {}
        self.rest = [0 for _ in range(2 * len(stock.turns.kinds))]
        if origin is not None:
            place, kind, below, branch = origin
            self.rest = place.account_with(kind, below, branch)

    def account_with(self, kind, below, missing):
        """The account with a knot of this kind over bases at this place, less that of the missing branch if any."""
        total = added(self.rest, self.stock.turns.knot_account(self.times, kind))
        for branch, state in enumerate(below):
            if branch != missing:
                total = added(total, self.branch_account(kind, branch, state))
        return total

    def branch_account(self, kind, branch, state):
        """The account of the base of a state as this branch of a knot of this kind at this place; it is kept."""
        key = (kind, branch, state)
        if key not in self.known:
            times = self.stock.turns.times_above(self.times, kind, branch)
            self.known[key] = self.stock.account_of_base(times, state)
        return self.known[key]

    def code_with(self, kind, below):
        """The ranks of the plant with a knot of this kind over bases at this place."""
        code = self.stock.bases.code_above(kind, below, None, ())
        origin = self.origin
        while origin is not None:
            place, kind, below, branch = origin
            code = self.stock.bases.code_above(kind, below, branch, code)
            origin = place.origin
        return code


class Places:
    """Places for branches of all states, found by ascending sizes.

    What differs between two accounts of plants that differ in one branch is fixed by the two branches and linear in
    the times at that place. So only places with independent times are kept for each state, of which `most` are enough
    if that is not None; the times of all places of up to some size follow from those of the places of up to this size.
    """

    def __init__(self, reader, turns, most):
        self.stock = Stock(reader, turns)
        self.most = most
        self.found = []
        self.spaces = [Basis() for _ in range(reader.states)]
        self.knots = self.least_knots()
        self.queue = []
        self.offered = 0
        for mark in reader.marks:
            self.offer(0, mark, turns.unit(turns.start), None)
        while self.queue:
            size, _, state, times, origin = heappop(self.queue)
            # The 1 stands for the knots of the plant itself, which are counted once.
            if not self.is_full(state) and self.spaces[state].take_in([1, *times]):
                self.found.append(Place(self.stock, state, size, times, origin))
                self.offer_above(self.found[-1])

    def least_knots(self):
        """For each state the knots that a branch there can have; for each kind, branch and its state a least one."""
        least = [{} for _ in self.spaces]
        for kind, below, result in self.stock.reader.table():
            total = 1 + sum([self.stock.sizes[state] for state in below])
            for branch, state in enumerate(below):
                key = (kind, branch, state)
                if key not in least[result] or total < least[result][key][0]:
                    least[result][key] = (total, below)
        return least

    def is_full(self, state):
        """Whether the state needs no more places."""
        return len(self.spaces[state].rows) == self.most

    def offer(self, size, state, times, origin):
        """Offer a place."""
        if not self.is_full(state):
            self.offered += 1
            heappush(self.queue, (size, self.offered, state, times, origin))

    def offer_above(self, place):
        """Offer the places directly above a place."""
        for (kind, branch, state), (total, below) in self.knots[place.state].items():
            times = self.stock.turns.times_above(place.times, kind, branch)
            size = place.size + total - self.stock.sizes[state]
            self.offer(size, state, times, (place, kind, below, branch))
