"""Sides of equations: trees with calls of one shear, worked on bases and unfolded over knots (points 38 and 39)."""

from shearyard.errors import TooMany
from shearyard.forest import calls_in, grafted, nodes_at
from shearyard.limits import MOST_KNOTS


class Side:
    """The sides with one shear, as nodes of a forest.

    A call of a state is a leaf whose label is this integer. In an unfolded side the calls are pairs: of a state and
    of a branch of the knot over which it has been unfolded.
    """

    def __init__(self, forest, bases, shear):
        self.forest = forest
        self.bases = bases
        self.worker = shear
        self.calls = {}
        self.known_branches = {}
        self.results = {}
        self.outcomes = {}
        self.unfoldings = {}
        self.fillings = {}

    def calls_at(self, node):
        """The different calls in the node's tree, with the number of leaves for each."""
        if node not in self.calls:
            self.calls[node] = calls_in(self.forest, node)
        return self.calls[node]

    def branches_at(self, node):
        """The branches that an unfolded side calls, ascending."""
        if node not in self.known_branches:
            self.known_branches[node] = sorted(set([branch for _, branch in self.calls_at(node)]))
        return self.known_branches[node]

    def result_node(self, state, kind):
        """The shear's result as an unfolded side."""
        if (state, kind) not in self.results:
            result = self.worker.results[state][kind]
            self.results[state, kind] = nodes_at(self.forest, self.worker.bed, result)[0]
        return self.results[state, kind]

    def outcome(self, state, base):
        """What comes out when the base of a state of the reader is worked in a state of the shear."""
        if (state, base) not in self.outcomes:
            kind, below = self.bases.roots[base]
            node = self.result_node(state, kind)
            # The bases below are lesser ones of at most 40, so this does not go deep.
            stands = {call: self.outcome(call[0], below[call[1]]) for call in self.calls_at(node)}
            self.outcomes[state, base] = grafted(self.forest, node, stands)
        return self.outcomes[state, base]

    def at_base(self, node, base):
        """What comes out when the side is worked on the base of a state; raises TooMany."""
        stands = {state: self.outcome(state, base) for state in self.calls_at(node)}
        self.check_size(node, stands)
        return grafted(self.forest, node, stands)

    def check_size(self, node, stands):
        """Raise TooMany if the side is larger than a plant may be where these nodes stand for its calls."""
        size = self.forest.sizes[node]
        for call, many in self.calls_at(node).items():
            size += many * (self.forest.sizes[stands[call]] - 1)
        if size > MOST_KNOTS:
            raise TooMany("knots", MOST_KNOTS)

    def check_over(self, node, below):
        """Raise TooMany if the unfolded side, worked on the plant of an expansion, is larger than a plant may be."""
        calls = self.calls_at(node)
        self.check_size(node, {call: self.outcome(call[0], below[call[1]]) for call in calls})

    def unfolded(self, node, kind):
        """The side in which each call is replaced by the shear's result for this kind."""
        if (node, kind) not in self.unfoldings:
            stands = {state: self.result_node(state, kind) for state in self.calls_at(node)}
            self.unfoldings[node, kind] = grafted(self.forest, node, stands)
        return self.unfoldings[node, kind]

    def filled(self, node, below, kept):
        """The unfolded side in which the calls are replaced by what comes out for the bases below.

        The calls on the branch `kept` remain, as integers; none remains if `kept` is None.
        """
        label = self.forest.labels[node]
        if not isinstance(label, str):
            return self.filled_call(label, below, kept)
        key = (node, kept, tuple([below[branch] for branch in self.branches_at(node) if branch != kept]))
        if key not in self.fillings:
            stands = {call: self.filled_call(call, below, kept) for call in self.calls_at(node)}
            self.fillings[key] = grafted(self.forest, node, stands)
        return self.fillings[key]

    def filled_call(self, call, below, kept):
        """What takes the place of one call in an unfolded side."""
        state, branch = call
        return self.forest.node_for(state, ()) if branch == kept else self.outcome(state, below[branch])
