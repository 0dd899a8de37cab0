"""The equations of two gardens, found slowly and plainly as points 38 to 41 describe them."""

from itertools import product

from shearyard.canon import least_plants
from shearyard.lots import all_of
from shearyard.oneness import admitted, one_shear
from tests.gardening import out_of, shear_results
from tests.reference import flat, nested


def replaced_calls(bed, side, stands):
    """The side with another tree in place of each leaf that is no kind."""
    return sum([(entry,) if isinstance(entry, str) else stands(entry) for entry in side], ())


def tree_of(bed, side):
    """The side as nested pairs."""
    return nested(bed, side)


def pairs_of(one, other):
    """The pairs of branches where at least one of two nested trees has a call."""
    if not isinstance(one[0], str) or not isinstance(other[0], str):
        return [(flat(one), flat(other))]
    assert one[0] == other[0]
    return sum([pairs_of(left, right) for left, right in zip(one[1], other[1])], [])


class PlainEquations:
    """The terms of point 38 for two gardens."""

    def __init__(self, first, second):
        self.bed = first.bed
        self.reader = all_of(admitted(first), admitted(second))
        self.bases = least_plants(self.reader)
        self.shears = (one_shear(first), one_shear(second))
        self.results = [shear_results(shear) for shear in self.shears]

    def worked(self, place, side, plant):
        """The side of this place worked on a plant."""
        return replaced_calls(
            self.bed, side, lambda state: out_of(self.bed, self.results[place], state, plant)
        )

    def holds_at(self, equation, plant):
        """Whether both sides of an equation make the same of a plant."""
        return self.worked(0, equation[1], plant) == self.worked(1, equation[2], plant)

    def firsts(self):
        """The first equations."""
        return [(mark, (self.shears[0].start,), (self.shears[1].start,)) for mark in self.reader.marks]

    def expansions(self, equation):
        """All triples of an expansion's plant, states below, and its equations (None if it fails)."""
        found = []
        for kind, many in self.bed.rows:
            for below in product(range(self.reader.states), repeat=many):
                if self.reader.step(kind, below) == equation[0]:
                    plant = (kind,) + sum([self.bases[state] for state in below], ())
                    found.append((plant, below, self.expanded(equation, kind, below, plant)))
        return found

    def expanded(self, equation, kind, below, plant):
        """The equations of an expansion with their branches, or None if it fails."""
        if not self.holds_at(equation, plant):
            return None
        sides = [
            replaced_calls(self.bed, side, lambda state: self.results[place][state, kind])
            for place, side in enumerate(equation[1:])
        ]
        found = {}
        for pair in pairs_of(*[tree_of(self.bed, side) for side in sides]):
            for branch in sorted({entry[1] for side in pair for entry in side if isinstance(entry, tuple)}):
                halves = [self.for_branch(place, side, branch, below) for place, side in enumerate(pair)]
                for left, right in pairs_of(*[tree_of(self.bed, half) for half in halves]):
                    found[branch, (below[branch], left, right)] = True
        return list(found)

    def for_branch(self, place, side, branch, below):
        """The side in which only the calls on one branch remain, as integers."""
        def stands(call):
            if call[1] == branch:
                return (call[0],)
            return out_of(self.bed, self.results[place], call[0], self.bases[below[call[1]]])
        return replaced_calls(self.bed, side, stands)

    def all(self):
        """All equations, each once."""
        found = list(dict.fromkeys(self.firsts()))
        for equation in found:
            if self.holds_at(equation, self.bases[equation[0]]):
                for _, _, others in self.expansions(equation):
                    for _, other in others or []:
                        if other not in found:
                            found.append(other)
        return found

    def is_paper(self, paper):
        """Whether the equations of the paper are closed and have all first ones; the paper has only equations."""
        if not all(first in paper for first in self.firsts()):
            return False
        for equation in paper:
            if not self.holds_at(equation, self.bases[equation[0]]):
                return False
            for _, _, others in self.expansions(equation):
                if others is None or not all(other in paper for _, other in others):
                    return False
        return True
