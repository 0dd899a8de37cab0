"""Alike for ever: whether two gardens do the same for every plant, and the paper that shows it."""

from shearyard.beds import check_beds
from shearyard.expansions import Comparison
from shearyard.forest import entries_of, nodes_at
from shearyard.lots import all_of, apart
from shearyard.partings import least_parting, parted, parts_of, searched
from shearyard.trees import fault_place


def parting(first, second):
    """The least plant that parts two gardens, or None if they do the same; raises TooMany."""
    check_beds([first.bed, second.bed])
    return parted(parts_of(first), parts_of(second))


def same(first, second):
    """Whether two gardens do the same; raises TooMany."""
    return parting(first, second) is None


def alike_paper(first, second):
    """All equations of two gardens that do the same, otherwise None; raises TooMany."""
    check_beds([first.bed, second.bed])
    one, other = parts_of(first), parts_of(second)
    search = searched(one, other)
    if least_parting(one, other, search) is not None:
        return None
    forest = search.comparison.forest
    return tuple([
        (state, entries_of(forest, left), entries_of(forest, right)) for state, left, right in search.equations
    ])


def is_alike_paper(first, second, paper):
    """Whether the paper shows that two gardens do the same; raises TooMany."""
    check_beds([first.bed, second.bed])
    readers, shears = list(zip(parts_of(first), parts_of(second)))
    lot = all_of(readers[0], readers[1])
    if not all([is_equation(lot, shears, entry) for entry in paper]) or apart(readers[0], readers[1]) is not None:
        return False
    firsts = [(mark, (shears[0].start,), (shears[1].start,)) for mark in lot.marks]
    return all([entry in paper for entry in firsts]) and is_closed_paper(Comparison(lot, shears), paper)


def is_equation(reader, shears, entry):
    """Whether the entry of a paper is an equation, with a state of this reader and sides with calls of the shears."""
    state, *sides = entry
    if not 0 <= state < reader.states or not any([is_lone_call(side) for side in sides]):
        return False
    return all([is_side(shear, side) for shear, side in zip(shears, sides)])


def is_lone_call(side):
    """Whether the side is written as a lone call."""
    return len(side) == 1 and isinstance(side[0], int)


def is_side(shear, side):
    """Whether the side is written like a plant in which a leaf may be a state of the shear."""
    return fault_place(shear.bed, side, list(range(shear.states))) is None


def is_closed_paper(comparison, paper):
    """Whether all equations hold at their bases and have expansions without a fault and with equations of the paper."""
    forest, bed = comparison.forest, comparison.bases.reader.bed
    equations = {}
    for state, left, right in paper:
        equations[state, nodes_at(forest, bed, left)[0], nodes_at(forest, bed, right)[0]] = True
    if not all([comparison.holds(equation) for equation in equations]):
        return False
    for equation in equations:
        for _, _, found in comparison.expansions(equation):
            if found is None or not all([other in equations for _, other in found]):
                return False
    return True
