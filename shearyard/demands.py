"""Demands: which beginnings a marked plant has, so that marked plants can be listed without trying others.

A mask is an integer in which a bit stands for a number of knots. A demand gives a mask for each state: a branch of
that state with that many knots can stand at a place, and there are plants for all places behind it. The spot before
a knot is a pair of the demand there and of the frame below: the knot whose branch begins here, as a tuple (kind,
states of its complete branches, demand at the knot, knots used so far with itself, frame below), or None.
"""

from shearyard.bits import differences, sums
from shearyard.rows import all_rows


class Demands:
    """The guide to all marked plants of a reader with one number of knots.

    `masks` gives for each state the numbers of knots of its plants, at least as far as the number asked for.
    """

    def __init__(self, reader, masks, knots):
        self.reader = reader
        self.widths = reader.bed.widths
        self.knots = knots
        self.masks = [mask & ((2 << knots) - 1) for mask in masks]
        self.rests = [self.rests_of(many) for many in range(max(list(self.widths.values())))]
        self.known_demands = {}
        self.known_masks = {}

    def rests_of(self, many):
        """All rows of that many states that plants have, each with the mask of the knots that they have together."""
        states = [state for state, mask in enumerate(self.masks) if mask > 0]
        found = []
        for row in all_rows(states, many):
            mask = 1
            for state in row:
                mask = sums(mask, self.masks[state])
            found.append((row, mask))
        return found

    def first(self):
        """The spot before the root."""
        wanted = 1 << self.knots
        marks = self.reader.marks
        return tuple([mask & wanted if state in marks else 0 for state, mask in enumerate(self.masks)]), None

    def after(self, spot, kind):
        """The spot behind one more knot, () if the plant is complete, None if no plant goes on in this way."""
        demand, frame = spot
        if self.widths[kind] > 0:
            wanted = self.demand_above(kind, (), demand, 1)
            return (wanted, (kind, (), demand, 1, frame)) if any(wanted) else None
        state = self.state_above(kind, ())
        return self.behind(state, 1, frame) if (demand[state] >> 1) & 1 == 1 else None

    def state_above(self, kind, below):
        """The state of a knot of this kind."""
        return self.reader.cells[kind].get(below, self.reader.otherwise)

    def behind(self, state, knots, frame):
        """The spot behind a branch with this state and so many knots."""
        while frame is not None:
            kind, done, demand, used, lower = frame
            done = done + (state,)
            used = used + knots
            if len(done) < self.widths[kind]:
                return self.demand_above(kind, done, demand, used), (kind, done, demand, used, lower)
            state, knots, frame = self.state_above(kind, done), used, lower
        return ()

    def demand_above(self, kind, done, demand, used):
        """The demand at the next branch of a knot: its kind, its complete branches, the demand at it, knots used."""
        left = tuple([mask >> used for mask in demand])
        key = (kind, done, left)
        if key not in self.known_demands:
            rests = self.rests[self.widths[kind] - len(done) - 1]
            self.known_demands[key] = tuple([
                mask & self.allowed(kind, done + (state,), rests, left) if mask > 0 else 0
                for state, mask in enumerate(self.masks)
            ])
        return self.known_demands[key]

    def allowed(self, kind, done, rests, left):
        """The mask of what the last of the done branches may have, if the knot may still have what is left."""
        found = 0
        for rest, mask in rests:
            wanted = left[self.state_above(kind, done + rest)]
            if wanted > 0:
                found = found | self.kept_differences(wanted, mask)
        return found

    def kept_differences(self, mask, other):
        """The differences of two masks, kept because the same ones are asked for again and again."""
        if (mask, other) not in self.known_masks:
            self.known_masks[mask, other] = differences(mask, other)
        return self.known_masks[mask, other]
