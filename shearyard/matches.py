"""Matches: which pieces of a shear's results a plant matches, if the shear does not copy (point 33)."""

from shearyard.bits import numbers_in
from shearyard.forest import Forest, nodes_at
from shearyard.machines import joint_machine
from shearyard.rows import rows_from
from shearyard.working import calls_of


class Matches:
    """The matches that plants have, by number.

    A match says two things of a plant. For each reached state of the shear, the mask of the reader's states for which
    it is an outcome: it comes out when some plant of that state is worked. And for each part of a result that begins
    with a kind, if the plant can be obtained from it, the masks for the calls in it from left to right. Because no
    branch is called twice, these masks tell all pieces that the plant matches, and only these.
    """

    def __init__(self, reader, shear):
        self.reader = reader
        self.places = {state: place for place, state in enumerate(shear.reached())}
        self.start = self.places[shear.start]
        self.whole = sum([1 << state for (state,) in joint_machine([reader]).joints])
        self.forest = Forest()
        self.heads = {kind: [] for kind in reader.bed.kinds}
        self.lone = []
        for state, place in self.places.items():
            for kind, result in shear.results[state].items():
                self.enter_result(place, kind, result)
        labels = list(enumerate(self.forest.labels))
        self.parts = {kind: [node for node, label in labels if label == kind] for kind in reader.bed.kinds}
        self.numbers = {}
        self.outcomes = []
        self.calls = []
        self.known = {}

    def enter_result(self, place, kind, result):
        """Take up the result of the state at this place for the kind; a call becomes the place of its state."""
        tree = tuple([self.places[entry[0]] if isinstance(entry, tuple) else entry for entry in result])
        branches = [branch for _, branch in calls_of(result)]
        node = nodes_at(self.forest, self.reader.bed, tree)[0]
        if isinstance(tree[0], str):
            self.heads[tree[0]].append((place, kind, node, branches))
        else:
            self.lone.append((place, kind, tree[0], branches))

    def match_above(self, kind, below):
        """The number of the match of a knot of this kind with these matches below."""
        calls = {}
        for node in self.parts[kind]:
            masks = self.masks_for(node, below)
            if 0 not in masks:
                calls[node] = masks
        outcomes = [0 for _ in self.places]
        for place, origin, node, branches in self.heads[kind]:
            if node in calls:
                outcomes[place] = outcomes[place] | self.states_above(origin, branches, calls[node])
        self.follow_lone(outcomes)
        key = (tuple(outcomes), tuple(list(calls.items())))
        if key not in self.numbers:
            self.numbers[key] = len(self.calls)
            self.outcomes.append(key[0])
            self.calls.append(calls)
        return self.numbers[key]

    def masks_for(self, node, below):
        """The masks for the calls in a part whose root is right; one of them is 0 if its branches do not fit."""
        found = []
        for branch, match in zip(self.forest.below[node], below):
            label = self.forest.labels[branch]
            if isinstance(label, str):
                found.extend(self.calls[match].get(branch, (0,)))
            else:
                found.append(self.outcomes[match][label])
        return tuple(found)

    def states_above(self, kind, branches, masks):
        """The mask of the reader's states of knots of this kind whose branches have states of the masks."""
        full = [self.whole for _ in range(self.reader.bed.widths[kind])]
        for branch, mask in zip(branches, masks):
            full[branch] = mask
        key = (kind, tuple(full))
        if key not in self.known:
            found = 0
            for below in rows_from([numbers_in(mask) for mask in full]):
                found = found | (1 << self.reader.cells[kind].get(below, self.reader.otherwise))
            self.known[key] = found
        return self.known[key]

    def follow_lone(self, outcomes):
        """Add to the masks what the results that are lone calls add to them."""
        grown = True
        while grown:
            grown = False
            for place, kind, called, branches in self.lone:
                if outcomes[called] > 0:
                    mask = outcomes[place] | self.states_above(kind, branches, (outcomes[called],))
                    grown = grown or mask != outcomes[place]
                    outcomes[place] = mask

    def is_marked(self, match):
        """Whether plants with this match come out of a marked plant when it is worked from the start."""
        return any([(self.outcomes[match][self.start] >> mark) & 1 == 1 for mark in self.reader.marks])
