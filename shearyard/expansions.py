"""Equations between the outcomes of two shears, and the equations of their expansions (points 38 and 39)."""

from shearyard.bases import Bases
from shearyard.forest import Forest
from shearyard.sides import Side


def pairs_in(forest, left, right):
    """The pairs of branches at the places where one of two trees has a call, compared from the roots downwards.

    Where neither of the trees has a call, they are the same.
    """
    found = []
    seen = {}
    waiting = [(left, right)]
    while waiting:
        pair = waiting.pop()
        one, other = pair
        if pair in seen or (forest.closed[one] and forest.closed[other]):
            continue
        seen[pair] = True
        if isinstance(forest.labels[one], str) and isinstance(forest.labels[other], str):
            waiting.extend(list(zip(forest.below[one], forest.below[other])))
        else:
            found.append(pair)
    return found


class Comparison:
    """Two shears on the plants of a canonical reader; an equation is a triple (state of the reader, node, node)."""

    def __init__(self, reader, shears):
        self.kinds = reader.bed.kinds
        self.forest = Forest()
        self.bases = Bases(reader)
        self.sides = [Side(self.forest, self.bases, shear) for shear in shears]
        self.known_branches = {}
        self.pairs = {}
        self.equations = {}

    def holds(self, equation):
        """Whether the equation holds at its base; raises TooMany."""
        state, left, right = equation
        return self.sides[0].at_base(left, state) == self.sides[1].at_base(right, state)

    def expansions(self, equation):
        """The expansions of the equation as triples (kind, states below, equations); raises TooMany.

        The equations are a list of pairs (branch, equation), or None if the expansion fails. Expansions that differ
        only in branches that neither side calls have the same equations; only the one with the least plant is there.
        """
        state, left, right = equation
        found = []
        for kind in self.kinds:
            nodes = (self.sides[0].unfolded(left, kind), self.sides[1].unfolded(right, kind))
            branches = self.branches_at(nodes)
            for below in self.bases.expansions(kind, branches, state):
                found.append((kind, below, self.equations_over(nodes, below)))
        return found

    def branches_at(self, nodes):
        """The branches that one of two unfolded sides calls, ascending."""
        if nodes not in self.known_branches:
            called = [branch for side, node in zip(self.sides, nodes) for branch in side.branches_at(node)]
            self.known_branches[nodes] = tuple(sorted(set(called)))
        return self.known_branches[nodes]

    def equations_over(self, nodes, below):
        """The pairs (branch, equation) of an expansion with these unfolded sides, or None if it fails."""
        plants = [side.checked(side.filled(node, below, None)) for side, node in zip(self.sides, nodes)]
        if plants[0] != plants[1]:
            return None
        if nodes not in self.pairs:
            self.pairs[nodes] = pairs_in(self.forest, nodes[0], nodes[1])
        found = {}
        for pair in self.pairs[nodes]:
            for branch in self.branches_at(pair):
                for left, right in self.pairs_for(pair, below, branch):
                    found[branch, (below[branch], left, right)] = True
        return list(found)

    def pairs_for(self, pair, below, branch):
        """The sides of the equations that a pair of unfolded sides has for one branch."""
        filled = tuple([side.filled(node, below, branch) for side, node in zip(self.sides, pair)])
        if filled not in self.equations:
            self.equations[filled] = pairs_in(self.forest, filled[0], filled[1])
        return self.equations[filled]
