"""Sights: where a stump occurs in the plants that a reader marks, told by states.

A mask has a bit for each state. All states of a canonical reader are states that plants have.
"""

from shearyard.bits import numbers_in
from shearyard.canon import canonical
from shearyard.errors import NeverSeen
from shearyard.rows import rows_from
from shearyard.stumps import HOLE
from shearyard.trees import ends_of, starts_above
from shearyard.useful import useful_states


def mask_of(states):
    """The mask of these states."""
    return sum([1 << state for state in sorted(set(states))])


class Sight:
    """All occurrences of a stump in all plants that a reader marks.

    `useful` is the mask of the states of branches of marked plants, `able` lists for each entry of the stump the mask
    of the states of the plants that its branch begins, and `wanted` those among them that are seen at this place.
    """

    def __init__(self, reader, stump):
        self.reader = canonical(reader)
        self.stump = stump
        self.rows = self.reader.table()
        self.marks = mask_of(self.reader.marks)
        self.useful = mask_of(list(useful_states(self.reader)))
        self.known = {}
        self.able = self.able_masks()
        self.found = self.able[0] & self.useful
        if self.found == 0:
            raise NeverSeen()
        self.wanted = self.wanted_masks()

    def masks_below(self, kind, masks, wanted):
        """The masks of the states below, out of these masks, with which a knot of this kind has a wanted state.

        The first mask of the answer is that of the knot itself; what has been told once is kept.
        """
        key = (kind, masks, wanted)
        if key not in self.known:
            found = [0, *[0 for _ in masks]]
            cells = self.reader.cells[kind]
            for below in rows_from([numbers_in(mask) for mask in masks]):
                result = cells.get(below, self.reader.otherwise)
                if (wanted >> result) & 1 == 1:
                    for place, state in enumerate((result, *below)):
                        found[place] = found[place] | (1 << state)
            self.known[key] = tuple(found)
        return self.known[key]

    def able_masks(self):
        """For each entry of the stump the mask of the states of the plants that its branch begins."""
        every = (1 << self.reader.states) - 1
        found = []
        waiting = []
        for entry in self.stump[::-1]:
            mask = every
            if entry != HOLE:
                masks = tuple([waiting.pop() for _ in range(self.reader.bed.widths[entry])])
                mask = self.masks_below(entry, masks, every)[0]
            waiting.append(mask)
            found.append(mask)
        return found[::-1]

    def wanted_masks(self):
        """For each entry of the stump the mask of the states that are seen there."""
        bed = self.reader.bed
        ends = ends_of(bed, self.stump)
        found = [self.found for _ in self.stump]
        for place, entry in enumerate(self.stump):
            starts = starts_above(bed, self.stump, ends, place)
            if len(starts) > 0:
                masks = tuple([self.able[start] for start in starts])
                seen = self.masks_below(entry, masks, found[place])
                for start, mask in zip(starts, seen[1:]):
                    found[start] = mask
        return found

    def hole_masks(self):
        """For each hole of the stump, from left to right, the mask of the states that are seen there."""
        return [mask for entry, mask in zip(self.stump, self.wanted) if entry == HOLE]

    def pairs_above(self, mask):
        """For each kind and branch that can directly bear a plant of the mask, the mask of the states of such knots.

        Only what stands in marked plants counts.
        """
        found = {}
        for kind, below, result in self.rows:
            if (self.useful >> result) & 1 == 1:
                for branch, state in enumerate(below):
                    if (mask >> state) & 1 == 1:
                        found[kind, branch] = found.get((kind, branch), 0) | (1 << result)
        return found
