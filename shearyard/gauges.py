"""Gauges: the state of a tree in which numbers stand for plants of which only the states are known."""


class Gauge:
    """Tells the state of a tree for a reader by the states that its numbers, from 0 to `many` - 1, stand for.

    A part is a pair of a source and a column. The source is None, and the column the state of the part; or it is the
    place of a value, and the column has the part's state for each value. `knots` lists the knots at which several
    sources meet; their states are further values.
    """

    def __init__(self, reader, tree, many):
        self.reader = reader
        self.many = many
        self.usual = list(range(reader.states))
        self.knots = []
        waiting = []
        for entry in tree[::-1]:
            if isinstance(entry, int):
                waiting.append((entry, self.usual))
            else:
                parts = [waiting.pop() for _ in range(reader.bed.widths[entry])]
                waiting.append(self.part_above(entry, parts))
        self.root = waiting[0]

    def part_above(self, kind, parts):
        """The part of a knot of this kind over these parts."""
        sources = [source for source, _ in parts if source is not None]
        if len(sources) == 0:
            return None, self.state_above(kind, parts, [])
        if len(sources) > 1:
            self.knots.append((kind, parts))
            return self.many + len(self.knots) - 1, self.usual
        # Only one value counts, so the parts are read with this value at its place.
        values = [[value] * (sources[0] + 1) for value in self.usual]
        return sources[0], [self.state_above(kind, parts, row) for row in values]

    def state_above(self, kind, parts, values):
        """The state of a knot of this kind over these parts."""
        below = tuple([part_state(part, values) for part in parts])
        return self.reader.cells[kind].get(below, self.reader.otherwise)

    def state_with(self, below):
        """The state of the tree if its numbers stand for plants with these states."""
        values = list(below)
        for kind, parts in self.knots:
            values.append(self.state_above(kind, parts, values))
        return part_state(self.root, values)


def part_state(part, values):
    """The state of the part if the sources have these values."""
    source, column = part
    return column if source is None else column[values[source]]
