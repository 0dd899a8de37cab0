"""Insides: what all plants of some states of a reader have in common, and which kinds they begin with."""

from shearyard.bits import numbers_in
from shearyard.stumps import HOLE


class Insides:
    """What stands in the plants of each state of a canonical reader.

    `below` lists for each state, by the kinds of such plants, the masks of the states of their branches.
    """

    def __init__(self, reader):
        self.below = [{} for _ in range(reader.states)]
        for kind, row, result in reader.table():
            masks = self.below[result].get(kind, [0 for _ in row])
            self.below[result][kind] = [mask | (1 << state) for mask, state in zip(masks, row)]

    def kinds_in(self, mask):
        """The kinds with which the plants of these states begin; by each kind the masks of their branches."""
        found = {}
        for state in numbers_in(mask):
            for kind, masks in self.below[state].items():
                earlier = found.get(kind, [0 for _ in masks])
                found[kind] = [one | other for one, other in zip(earlier, masks)]
        return found

    def shared_by(self, mask):
        """The common stump of all plants of these states."""
        known = {}
        entries = []
        waiting = [mask]
        while waiting:
            place = waiting.pop()
            if place not in known:
                known[place] = list(self.kinds_in(place).items())
            if len(known[place]) == 1:
                kind, masks = known[place][0]
                entries.append(kind)
                waiting.extend(masks[::-1])
            else:
                entries.append(HOLE)
        return tuple(entries)
