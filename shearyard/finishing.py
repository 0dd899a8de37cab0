"""Finishing: a finished plant to which trims lead, found from the leaves to the root."""


class Finisher:
    """Finds for nodes of a grove the nodes of finished plants; `known` keeps what has been found.

    The branches of a knot are finished before the knot itself. If trims end alike, every way leads to the same plant.
    """

    def __init__(self, grove):
        self.grove = grove
        self.known = {}

    def finished_node(self, node):
        """The node of a finished plant to which trims lead from this node."""
        waiting = [node]
        while waiting:
            needed = self.needed_by(waiting[-1])
            if len(needed) == 0:
                waiting.pop()
            waiting.extend(needed)
        return self.known[node]

    def needed_by(self, node):
        """The nodes that have to be finished before this one; if there are none, it is finished now."""
        forest = self.grove.forest
        if node in self.known:
            return []
        unknown = [branch for branch in forest.below[node] if branch not in self.known]
        if len(unknown) > 0:
            return unknown
        other = forest.node_for(forest.labels[node], tuple([self.known[branch] for branch in forest.below[node]]))
        self.grove.settle()
        if len(self.grove.fitting[other]) == 0:
            self.known[other] = other
            self.known[node] = other
            return []
        smaller = self.grove.trimmed(other, self.grove.fitting[other][0])
        if smaller not in self.known:
            return [smaller]
        self.known[node] = self.known[smaller]
        return []
