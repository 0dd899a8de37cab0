"""Tallies: how many plants of each number of knots have each state of a reader."""

from shearyard.growing import rows_of_plants


def spread(left, right):
    """The sum of the products of two items, one of each list, whose places add up to the last place."""
    return sum([one * other for one, other in zip(left, right[::-1])])


class Tally:
    """How many plants have each state of a reader, for up to `size` knots; `grow` raises `size` by one.

    The reader's state `otherwise` has all plants that the other states leave, so only rows of others are worked
    through. They are grouped by the first state below and the resulting state; what else stands below is the rest of
    a row. `columns` lists for each state the numbers of plants, `masks` has a bit for each number that is not 0, and
    `ways` lists for each group in how many ways its rests have each number of knots.
    """

    def __init__(self, reader, knots):
        self.size = 0
        self.totals = [row[1] for row in rows_of_plants(reader.bed, knots)]
        self.columns = [[0] for _ in range(reader.states)]
        self.masks = [0 for _ in self.columns]
        self.otherwise = reader.otherwise
        self.tips = []
        self.rests = {}
        self.ways = {}
        for kind in reader.bed.kinds:
            for below, state in reader.cells[kind].items():
                if state != reader.otherwise:
                    self.enter(below, state)

    def enter(self, below, state):
        """Take up a row with this state."""
        if below == ():
            self.tips.append(state)
            return
        rests = self.rests.setdefault((below[0], state), {})
        rests[below[1:]] = rests.get(below[1:], 0) + 1
        self.ways[below[0], state] = []

    def grow(self):
        """Count the plants with one more knot."""
        known = {}
        counts = [0 for _ in self.columns]
        for (first, state), rests in self.rests.items():
            more = sum([many * self.ways_of(rest, known) for rest, many in rests.items()])
            self.ways[first, state].append(more)
            counts[state] += spread(self.columns[first], self.ways[first, state])
        if self.size == 0:
            for state in self.tips:
                counts[state] += 1
        self.size += 1
        counts[self.otherwise] = self.totals[self.size] - sum(counts)
        for state, count in enumerate(counts):
            self.columns[state].append(count)
            if count > 0:
                self.masks[state] = self.masks[state] + (1 << self.size)

    def ways_of(self, rest, known):
        """The number of rows of plants with these states that have `size` knots together; `known` keeps answers."""
        if len(rest) == 0:
            return 1 if self.size == 0 else 0
        if len(rest) == 1:
            return self.columns[rest[0]][-1]
        if rest not in known:
            known[rest] = spread(self.columns[rest[0]], self.columns[rest[1]])
        return known[rest]
