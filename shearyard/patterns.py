"""Patterns: which branches of some stumps begin a plant, found from the leaves of the plant to its root."""

from shearyard.forest import Forest, nodes_at
from shearyard.stumps import HOLE


class Patterns:
    """The different branches of some stumps; a mask has a bit for each one that begins a plant.

    `roots` lists the bits of the stumps themselves. The bit of the hole stands in every mask.
    """

    def __init__(self, bed, stumps):
        forest = Forest()
        self.roots = [1 << nodes_at(forest, bed, stump)[0] for stump in stumps]
        self.hole = 1 << forest.node_for(HOLE, ())
        self.nodes = {kind: [] for kind in bed.kinds}
        self.masks = {kind: 0 for kind in bed.kinds}
        for node, label in enumerate(forest.labels):
            if label != HOLE:
                self.nodes[label].append((1 << node, [1 << branch for branch in forest.below[node]]))
                self.masks[label] = self.masks[label] | (1 << node)
        self.known = {}

    def mask_for(self, kind, below):
        """The mask of a knot of this kind whose branches have these masks."""
        mask = self.masks[kind]
        for place, other in enumerate(below):
            mask = mask & self.fitting_at(kind, place, other)
        return mask | self.hole

    def fitting_at(self, kind, place, other):
        """The mask of the branches with this kind at the root whose branch at the place is in the other mask."""
        key = (kind, place, other)
        if key not in self.known:
            bits = [bit for bit, below in self.nodes[kind] if below[place] & other > 0]
            # The bits are all different, so their sum is a mask.
            self.known[key] = sum(bits)
        return self.known[key]
