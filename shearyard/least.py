"""Least plants of the states of a machine."""

from shearyard.errors import TooMany
from shearyard.limits import MOST_KNOTS
from shearyard.rows import rows_with


def least_codes(machine):
    """The ranks of the entries of each state's least plant, in ascending order of these plants.

    A state whose least plant has more than 2,000 knots is left out. The least plant of a state has least plants as
    its branches, so the least one that can be built from those found so far is always the next one.
    """
    bed = machine.bed
    codes = {}
    best = {}
    for kind in bed.leaves():
        offer(best, machine.cells[kind][()], (1, bed.ranks[kind], ()))
    while best:
        state = min(best, key=lambda number: best[number])
        _, rank, below = best.pop(state)
        code = (rank,)
        for part in below:
            code = code + part
        codes[state] = code
        for kind in bed.kinds:
            offer_rows(machine, codes, kind, best)
    return codes


def offer(best, state, plant):
    """Keep the plant, written as its size, its rank and its branches' codes, if it is the least one of its state."""
    if state not in best or plant < best[state]:
        best[state] = plant


def offer_rows(machine, codes, kind, best):
    """Offer the plants of this kind that have the code found last, and otherwise codes found before, below."""
    states = list(codes)
    sizes = [len(code) for code in codes.values()]
    rank = machine.bed.ranks[kind]
    table = machine.cells[kind]
    for row in rows_with(len(states) - 1, machine.bed.widths[kind]):
        below = tuple([states[place] for place in row])
        size = 1 + sum([sizes[place] for place in row])
        if size <= MOST_KNOTS and table[below] not in codes:
            offer(best, table[below], (size, rank, tuple([codes[state] for state in below])))


def decoded(bed, code):
    """The plant whose entries have these ranks."""
    return tuple([bed.kinds[rank] for rank in code])


def least_marked(machine, marks):
    """The least plant whose number in the machine is marked, or None; raises TooMany."""
    codes = least_codes(machine)
    for state in codes:
        if state in marks:
            return decoded(machine.bed, codes[state])
    if len(marks) > 0:
        raise TooMany("knots", MOST_KNOTS)
    return None
