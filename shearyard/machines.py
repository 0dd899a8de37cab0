"""Machines: the joint states that plants have, found from a step."""

from shearyard.errors import TooMany
from shearyard.limits import MOST_STATES
from shearyard.rows import rows_with


class Machine:
    """The joint states that plants have, numbered as they are found.

    `step(kind, below)` gives the joint state of a knot with these joint states below; a joint state is anything that
    can be a key. `cells` holds for each kind the numbers by the numbers below; no row is missing, and some plant
    stands for each number.
    """

    def __init__(self, bed, step):
        self.bed = bed
        self.joints = []
        self.numbers = {}
        self.cells = {kind: {} for kind in bed.kinds}
        for kind in bed.leaves():
            self.cells[kind][()] = self.number_for(step(kind, ()))
        last = 0
        while last < len(self.joints):
            for kind, many in bed.rows:
                for row in rows_with(last, many):
                    below = tuple([self.joints[number] for number in row])
                    self.cells[kind][row] = self.number_for(step(kind, below))
            last += 1

    def number_for(self, joint):
        """The number of a joint state, a new one if necessary; raises TooMany."""
        if joint not in self.numbers:
            if len(self.joints) == MOST_STATES:
                raise TooMany("states", MOST_STATES)
            self.numbers[joint] = len(self.joints)
            self.joints.append(joint)
        return self.numbers[joint]


def joint_machine(readers):
    """The machine whose joint states are the tuples of the readers' states."""
    def step(kind, below):
        return tuple([
            reader.cells[kind].get(tuple([joint[place] for joint in below]), reader.otherwise)
            for place, reader in enumerate(readers)
        ])
    return Machine(readers[0].bed, step)
