"""Groves: forests of open plants in which it is known which trims fit where."""

from shearyard.forest import Forest
from shearyard.stumps import HOLE
from shearyard.trees import paths_of


class Grove:
    """A forest of open plants, and a set of trims.

    For each node that `settle` has seen, `fitting` lists the indexes of the trims that fit at its root, and `busy` says
    whether it has a spot at all.
    """

    def __init__(self, trims):
        self.bed = trims.bed
        self.trims = trims.trims
        self.forest = Forest()
        self.fitting = []
        self.busy = []
        self.known = {}

    def settle(self):
        """Look at all nodes that are new."""
        forest = self.forest
        for node in range(len(self.busy), len(forest.labels)):
            fitting = [index for index, trim in enumerate(self.trims) if self.parts_at(node, trim.stump) is not None]
            self.fitting.append(fitting)
            self.busy.append(len(fitting) > 0 or any([self.busy[branch] for branch in forest.below[node]]))

    def parts_at(self, node, stump):
        """The nodes at the stump's holes if it begins the node's tree, otherwise None."""
        found = []
        waiting = [node]
        for entry in stump:
            place = waiting.pop()
            if entry == HOLE:
                found.append(place)
            elif entry == self.forest.labels[place]:
                waiting.extend(self.forest.below[place][::-1])
            else:
                return None
        return found

    def trimmed(self, node, index):
        """The node after the trim with this index, which fits at its root; `known` keeps it."""
        if (node, index) not in self.known:
            self.known[node, index] = self.node_after(node, self.trims[index])
        return self.known[node, index]

    def node_after(self, node, trim):
        """The node after a trim that fits at its root."""
        parts = self.parts_at(node, trim.stump)
        waiting = []
        for entry in trim.result[::-1]:
            if isinstance(entry, int):
                waiting.append(parts[entry])
            else:
                below = tuple([waiting.pop() for _ in range(self.bed.widths[entry])])
                waiting.append(self.forest.node_for(entry, below))
        return waiting[0]

    def trimmed_at(self, node, path, index):
        """The node after the trim with this index, which fits at the path."""
        trail = []
        for branch in path:
            trail.append(node)
            node = self.forest.below[node][branch]
        node = self.trimmed(node, index)
        for knot, branch in zip(trail[::-1], path[::-1]):
            node = self.changed(knot, branch, node)
        return node

    def changed(self, node, branch, other):
        """The node with another one as this branch."""
        below = self.forest.below[node]
        return self.forest.node_for(self.forest.labels[node], below[:branch] + (other,) + below[branch + 1:])

    def reach(self):
        """The most levels by which a knot of a stump is above the stump's root."""
        levels = [
            len(path) for trim in self.trims
            for path, entry in zip(paths_of(self.bed, trim.stump), trim.stump) if entry != HOLE
        ]
        return max(levels, default=0)
