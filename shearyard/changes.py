"""Changes: how plants are best changed into plants of each state of a reader."""

from shearyard.forest import Forest
from shearyard.least import least_codes
from shearyard.limits import MOST_KNOTS
from shearyard.machines import joint_machine
from shearyard.offers import code_above
from shearyard.rows import rows_from, rows_with


class Changer:
    """Finds for a plant the cheapest changes into plants of each state of a reader; these are nodes of a forest.

    A choice is a tuple of the price, the number of knots, the kind at the root and the nodes of the branches.
    """

    def __init__(self, prices, reader):
        self.prices = prices
        self.reader = reader
        self.ranks = prices.bed.ranks
        self.forest = Forest()

    def tables_of(self, plant):
        """For each state that a change can lead to, the price of the best change and the node of what it leads to."""
        waiting = []
        for kind in plant[::-1]:
            below = [waiting.pop() for _ in range(self.prices.bed.widths[kind])]
            waiting.append(self.table_above(kind, below))
        return waiting[0]

    def table_above(self, kind, below):
        """The same for a knot of this kind over branches with these tables."""
        best = {}
        for leaf in self.prices.bed.leaves():
            self.offer(best, (self.prices.cutting, 1, leaf, ()), ())
        for row in rows_from([list(table) for table in below]):
            chosen = [table[state] for table, state in zip(below, row)]
            nodes = tuple([node for _, node in chosen])
            total = sum([cost for cost, _ in chosen])
            size = 1 + sum([self.forest.sizes[node] for node in nodes])
            for other, cost in self.prices.turns[kind].items():
                self.offer(best, (total + cost, size, other, nodes), row)
        return {state: (found[0], self.forest.node_for(found[2], found[3])) for state, found in best.items()}

    def offer(self, best, choice, row):
        """Keep the choice, whose branches have these states, if it is the best one of its state."""
        state = self.reader.cells[choice[2]].get(row, self.reader.otherwise)
        if state not in best or self.is_better(choice, best[state]):
            best[state] = choice

    def is_better(self, choice, other):
        """Whether the choice is cheaper than the other one, or leads to a lesser plant at the same price."""
        if choice[:2] != other[:2]:
            return choice[:2] < other[:2]
        return self.is_before(choice[2:], other[2:])

    def is_before(self, first, second):
        """Whether a plant, given by its kind and the nodes of its branches, is less than another one of its size."""
        forest = self.forest
        while first[0] == second[0]:
            pairs = [(one, other) for one, other in zip(first[1], second[1]) if one != other]
            if len(pairs) == 0:
                return False
            # What stands before the first difference is equal, so that the difference decides, whatever its size.
            first, second = [(forest.labels[node], forest.below[node]) for node in pairs[0]]
        return self.ranks[first[0]] < self.ranks[second[0]]


def cheapest_change(prices, plant, reader):
    """The forest, the least price and the node of the least marked plant at that price; or None."""
    changer = Changer(prices, reader)
    forest = changer.forest
    best = None
    for state, (cost, node) in changer.tables_of(plant).items():
        choice = (cost, forest.sizes[node], forest.labels[node], forest.below[node])
        if state in reader.marks and (best is None or changer.is_better(choice, best)):
            best = choice
    return None if best is None else (forest, best[0], forest.node_for(best[2], best[3]))


class Pairings:
    """The best change offered so far from a plant of one state to one of another, for each pair of states.

    A change is a tuple: the price, and the sizes and codes of both plants. If the first plant, and with it the change,
    is too large, only the price and its size are kept. The second plant is never larger than the first one.
    """

    def __init__(self):
        self.best = {}
        self.taken = {}

    def offer(self, pair, cost, ranks, parts):
        """Offer the change of a knot at this price and with these ranks over branches with these changes."""
        total = cost + sum([part[0] for part in parts])
        size = 1 + sum([part[1] for part in parts])
        if pair in self.taken or (pair in self.best and self.best[pair][:2] < (total, size)):
            return
        change = (total, size, (), 0, ())
        if size <= MOST_KNOTS:
            code = code_above(ranks[0], [part[2] for part in parts])
            other_code = code_above(ranks[1], [part[4] for part in parts])
            change = (total, size, code, len(other_code), other_code)
        self.offer_change(pair, change)

    def offer_change(self, pair, change):
        """Offer this change."""
        if pair not in self.best or change < self.best[pair]:
            self.best[pair] = change

    def take(self):
        """The pair of the best change offered, which is kept from now on."""
        pair = min(self.best, key=lambda one: self.best[one])
        self.taken[pair] = self.best.pop(pair)
        return pair


def nearest_pair(prices, first, second):
    """The best change from a marked plant of the first canonical reader to one of the second, or None."""
    pairings = Pairings()
    offer_cuts(prices, first, second, pairings)
    for kind in prices.bed.leaves():
        offer_knots(prices, first, second, pairings, (kind, []))
    while len(pairings.best) > 0:
        pair = pairings.take()
        if pair[0] in first.marks and pair[1] in second.marks:
            return pairings.taken[pair]
        pairs = list(pairings.taken)
        for kind, many in prices.bed.rows:
            for row in rows_with(len(pairs) - 1, many):
                offer_knots(prices, first, second, pairings, (kind, [pairs[place] for place in row]))
    return None


def offer_cuts(prices, first, second, pairings):
    """Offer that whole plants are cut: least plants of each state of the first reader."""
    machine = joint_machine([first])
    for number, code in least_codes(machine).items():
        for leaf in prices.bed.leaves():
            pair = (machine.joints[number][0], second.cells[leaf].get((), second.otherwise))
            pairings.offer_change(pair, (prices.cutting, len(code), code, 1, (prices.bed.ranks[leaf],)))


def offer_knots(prices, first, second, pairings, row):
    """Offer the changes of knots of a kind over branches with changes that have been taken for these pairs."""
    kind, pairs = row
    below = tuple([pair[0] for pair in pairs])
    other_below = tuple([pair[1] for pair in pairs])
    parts = [pairings.taken[pair] for pair in pairs]
    state = first.cells[kind].get(below, first.otherwise)
    ranks = prices.bed.ranks
    for other, cost in prices.turns[kind].items():
        other_state = second.cells[other].get(other_below, second.otherwise)
        pairings.offer((state, other_state), cost, (ranks[kind], ranks[other]), parts)
