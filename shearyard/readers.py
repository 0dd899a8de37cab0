"""Readers: finite tables that give each plant a state, from the leaves to the root."""

from shearyard.errors import InvalidReader, NoState, TooMany, WrongBranches
from shearyard.limits import MOST_STATES
from shearyard.plants import check_plant
from shearyard.rows import all_rows


def check_states(states):
    """Raise TooMany or InvalidReader if a reader may not have so many states."""
    if states > MOST_STATES:
        raise TooMany("states", MOST_STATES)
    if states < 1:
        raise InvalidReader(-1)


def rows_by_kind(bed, states, rows):
    """For each kind the states by the states below; raises InvalidReader for the first invalid row."""
    table = {kind: {} for kind in bed.kinds}
    for place, (kind, below, state) in enumerate(rows):
        if kind not in table or len(below) != bed.widths[kind] or below in table[kind]:
            raise InvalidReader(place)
        if not are_states(states, (*below, state)):
            raise InvalidReader(place)
        table[kind][below] = state
    return table


def are_states(states, numbers):
    """Whether each of the numbers is a state."""
    return all([0 <= number < states for number in numbers])


def check_marks(states, marks):
    """Raise InvalidReader if the marks are not ascending states."""
    least = 0
    for mark in marks:
        if mark < least or mark >= states:
            raise InvalidReader(-2)
        least = mark + 1


class Reader:
    """A table of states by kind and states below; what has no row there has the state `otherwise`."""

    def __init__(self, bed, states, rows, marks, *, otherwise=0):
        check_states(states)
        table = rows_by_kind(bed, states, rows)
        check_marks(states, marks)
        if not are_states(states, (otherwise,)):
            raise InvalidReader(-3)
        self.bed = bed
        self.states = states
        self.cells = table
        self.marks = marks
        self.otherwise = otherwise

    def __contains__(self, plant):
        return self.state_of(plant) in self.marks

    def step(self, kind, below):
        """The state of a knot of this kind with these states below."""
        wanted = self.bed.branches(kind)
        if len(below) != wanted:
            raise WrongBranches(wanted, len(below))
        for state in below:
            if not are_states(self.states, (state,)):
                raise NoState(state)
        return self.cells[kind].get(below, self.otherwise)

    def state_of(self, plant):
        """The state of the plant."""
        return self.states_of(plant)[0]

    def states_of(self, plant):
        """The states of the branches at all knots, in preorder."""
        check_plant(self.bed, plant)
        found = []
        waiting = []
        for kind in plant[::-1]:
            below = []
            for _ in range(self.bed.widths[kind]):
                below.append(waiting.pop())
            state = self.cells[kind].get(tuple(below), self.otherwise)
            waiting.append(state)
            found.append(state)
        return tuple(found[::-1])

    def table(self):
        """All rows (kind, below, state), ordered by the rank of the kind and then by the states below."""
        states = list(range(self.states))
        found = []
        for kind, many in self.bed.rows:
            by_below = self.cells[kind]
            found.extend([(kind, below, by_below.get(below, self.otherwise)) for below in all_rows(states, many)])
        return tuple(found)
