"""Backward through a shear: the plants from which marked plants come out."""

from shearyard.beds import check_beds
from shearyard.classes import canonical_reader
from shearyard.machines import Machine
from shearyard.working import calls_of


def before(reader, shear):
    """The canonical reader of the plants of which the reader marks what comes out of the shear; raises TooMany."""
    check_beds([reader.bed, shear.bed])
    return reader_before(outcome_machine(reader, shear), shear, reader.marks)


def reader_before(machine, shear, marks):
    """The canonical reader of the plants whose outcome has one of these states of the machine's reader."""
    start = shear.reached().index(shear.start)
    return canonical_reader(machine, [number for number, joint in enumerate(machine.joints) if joint[start] in marks])


def outcome_machine(reader, shear):
    """The machine whose joint states are the reader's states on what comes out, for each reached state of the shear."""
    reached = shear.reached()
    meters = {
        kind: [Meter(reader, shear.results[state][kind], reached) for state in reached] for kind in reader.bed.kinds
    }

    def step(kind, below):
        return tuple([meter.read_off(below) for meter in meters[kind]])

    return Machine(reader.bed, step)


class Meter:
    """Tells the state of a reader on what comes of one result; what has been told once is kept."""

    def __init__(self, reader, result, reached):
        self.reader = reader
        self.calls = sorted(set(calls_of(result)))
        self.places = [(branch, reached.index(state)) for state, branch in self.calls]
        self.result = result
        self.told = {}

    def read_off(self, below):
        """The state if the branches have these joint states."""
        values = tuple([below[branch][place] for branch, place in self.places])
        if values not in self.told:
            self.told[values] = self.state_with(values)
        return self.told[values]

    def state_with(self, values):
        """The state if what the calls stand for has these states."""
        known = {call: value for call, value in zip(self.calls, values)}
        waiting = []
        for entry in self.result[::-1]:
            if isinstance(entry, tuple):
                waiting.append(known[entry])
            else:
                below = tuple([waiting.pop() for _ in range(self.reader.bed.widths[entry])])
                waiting.append(self.reader.cells[entry].get(below, self.reader.otherwise))
        return waiting[0]
