"""Equations between the outcomes of two shears, and the equations of their expansions (points 38 and 39)."""

from shearyard.bases import Bases
from shearyard.forest import Forest
from shearyard.sides import Side


def pairs_in(forest, left, right):
    """The pairs of branches at the places where one of two trees has a call, compared from the roots downwards.

    None if the trees differ elsewhere.
    """
    found = []
    seen = {}
    waiting = [(left, right)]
    while waiting:
        pair = waiting.pop()
        if pair not in seen:
            seen[pair] = True
            labels = [forest.labels[node] for node in pair]
            if not isinstance(labels[0], str) or not isinstance(labels[1], str):
                found.append(pair)
            elif labels[0] != labels[1]:
                return None
            elif pair[0] != pair[1] or not forest.closed[pair[0]]:
                waiting.extend(list(zip(forest.below[pair[0]], forest.below[pair[1]])))
    return found


class Unfolding:
    """Two sides that are unfolded over a knot, and the branches that they call, ascending.

    `pairs` lists their pairs, each with the branches that are called in it; it is None if the sides always differ.
    """

    def __init__(self, forest, sides, nodes):
        self.nodes = nodes
        self.called = called_in(sides, nodes)
        pairs = pairs_in(forest, nodes[0], nodes[1])
        self.pairs = None if pairs is None else [(pair, called_in(sides, pair)) for pair in pairs]


def called_in(sides, nodes):
    """The branches that one of two unfolded sides calls, ascending."""
    called = [branch for side, node in zip(sides, nodes) for branch in side.branches_at(node)]
    return tuple(sorted(set(called)))


class Comparison:
    """Two shears on the plants of a canonical reader; an equation is a triple (state of the reader, node, node)."""

    def __init__(self, reader, shears):
        self.kinds = reader.bed.kinds
        self.forest = Forest()
        self.bases = Bases(reader)
        self.sides = [Side(self.forest, self.bases, shear) for shear in shears]
        self.unfoldings = {}
        self.equations = {}

    def holds(self, equation):
        """Whether the equation holds at its base; raises TooMany."""
        state, left, right = equation
        return self.sides[0].at_base(left, state) == self.sides[1].at_base(right, state)

    def expansions(self, equation):
        """The expansions of the equation as triples (kind, states below, equations); raises TooMany.

        The equations are a list of pairs (branch, equation), or None if the expansion fails. Expansions that differ
        only in branches that neither side calls have the same equations; only the one with the least plant is there.
        """
        state, left, right = equation
        found = []
        for kind in self.kinds:
            unfolding = self.unfolded(left, right, kind)
            for below in self.bases.expansions(kind, unfolding.called, state):
                found.append((kind, below, self.equations_over(unfolding, below)))
        return found

    def unfolded(self, left, right, kind):
        """The unfolding of two sides over a knot of this kind."""
        if (left, right, kind) not in self.unfoldings:
            nodes = (self.sides[0].unfolded(left, kind), self.sides[1].unfolded(right, kind))
            self.unfoldings[left, right, kind] = Unfolding(self.forest, self.sides, nodes)
        return self.unfoldings[left, right, kind]

    def equations_over(self, unfolding, below):
        """The pairs (branch, equation) of an expansion, or None if it fails; raises TooMany."""
        for side, node in zip(self.sides, unfolding.nodes):
            side.check_over(node, below)
        if unfolding.pairs is None:
            return None
        found = {}
        for pair, called in unfolding.pairs:
            if self.sides[0].filled(pair[0], below, None) != self.sides[1].filled(pair[1], below, None):
                return None
            for branch in called:
                for left, right in self.pairs_for(pair, below, branch):
                    found[branch, (below[branch], left, right)] = True
        return list(found)

    def pairs_for(self, pair, below, branch):
        """The sides of the equations that a pair of unfolded sides has for one branch."""
        filled = tuple([side.filled(node, below, branch) for side, node in zip(self.sides, pair)])
        if filled not in self.equations:
            self.equations[filled] = pairs_in(self.forest, filled[0], filled[1])
        return self.equations[filled]
