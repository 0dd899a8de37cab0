"""Bases: the least plants of the states of a canonical reader, and the expansions over them (points 38 and 39)."""

from shearyard.canon import least_plants
from shearyard.trees import ends_of, starts_above


def root_of(reader, plant):
    """The kind of the plant's root and the states of its branches."""
    states = reader.states_of(plant)
    starts = starts_above(reader.bed, plant, ends_of(reader.bed, plant), 0)
    return plant[0], tuple([states[start] for start in starts])


class Bases:
    """The bases of a canonical reader's states.

    `codes` lists for each base the ranks of its entries, and `roots` its root's kind with the states of its branches:
    they are bases, too, because a least plant has least plants as its branches.
    """

    def __init__(self, reader):
        plants = least_plants(reader)
        self.reader = reader
        self.ranks = reader.bed.ranks
        self.codes = [tuple([self.ranks[kind] for kind in plant]) for plant in plants]
        self.roots = [root_of(reader, plant) for plant in plants]
        self.rows = self.rows_by_kind()
        self.known = {}

    def rows_by_kind(self):
        """For each kind the rows (states below, state), in the order of the plants that have these bases below."""
        states = sorted(list(range(self.reader.states)), key=lambda state: self.codes[state])
        turns = {state: turn for turn, state in enumerate(states)}
        sizes = [len(code) for code in self.codes]
        found = {kind: [] for kind in self.ranks}
        for kind, below, state in self.reader.table():
            turn = (sum([sizes[part] for part in below]), tuple([turns[part] for part in below]))
            found[kind].append((turn, below, state))
        return {kind: [row[1:] for row in sorted(rows)] for kind, rows in found.items()}

    def expansions(self, kind, branches, state):
        """The states below a knot of this kind that has this state, in the order of the plants of the expansions.

        Of those that differ only outside of the branches named, only the one with the least plant is there.
        """
        if (kind, branches) not in self.known:
            least = {}
            for below, above in self.rows[kind]:
                least.setdefault((above, tuple([below[branch] for branch in branches])), below)
            by_state = {}
            for key, below in least.items():
                by_state.setdefault(key[0], []).append(below)
            self.known[kind, branches] = by_state
        return self.known[kind, branches].get(state, [])

    def code_above(self, kind, below, branch, code):
        """The ranks of the plant of an expansion, with another code in place of the base of one branch."""
        parts = [self.codes[state] for state in below]
        if branch is not None:
            parts[branch] = code
        found = (self.ranks[kind],)
        for part in parts:
            found = found + part
        return found
