"""Lots of plants: readers that are put together from other readers."""

from shearyard.beds import check_beds
from shearyard.classes import canonical_reader
from shearyard.least import least_marked
from shearyard.machines import joint_machine
from shearyard.plants import check_plant
from shearyard.readers import Reader


def checked_machine(readers):
    """The machine of the readers' joint states; raises OtherBed and TooMany."""
    check_beds([reader.bed for reader in readers])
    return joint_machine(readers)


def flags_of(machine, readers):
    """For each joint state a list that says for each reader whether its state is marked."""
    return [[state in reader.marks for state, reader in zip(joint, readers)] for joint in machine.joints]


def escaped_numbers(machine, readers):
    """The numbers of the joint states that the first of two readers marks and the second one does not."""
    flags = flags_of(machine, readers)
    return [number for number, (left, right) in enumerate(flags) if left and not right]


def all_of(first, *others):
    """The canonical reader of the plants that all readers mark."""
    readers = [first, *others]
    machine = checked_machine(readers)
    flags = flags_of(machine, readers)
    return canonical_reader(machine, [number for number, marked in enumerate(flags) if all(marked)])


def any_of(first, *others):
    """The canonical reader of the plants that at least one reader marks."""
    readers = [first, *others]
    machine = checked_machine(readers)
    flags = flags_of(machine, readers)
    return canonical_reader(machine, [number for number, marked in enumerate(flags) if any(marked)])


def without(first, second):
    """The canonical reader of the plants that the first reader marks and the second one does not."""
    machine = checked_machine([first, second])
    return canonical_reader(machine, escaped_numbers(machine, [first, second]))


def complement(reader):
    """The canonical reader of the plants that the reader does not mark."""
    machine = joint_machine([reader])
    flags = flags_of(machine, [reader])
    return canonical_reader(machine, [number for number, marked in enumerate(flags) if not marked[0]])


def apart(first, second):
    """The least plant that exactly one of two readers marks, or None."""
    machine = checked_machine([first, second])
    flags = flags_of(machine, [first, second])
    return least_marked(machine, [number for number, (left, right) in enumerate(flags) if left != right])


def escaped(first, second):
    """The least plant that the first reader marks and the second one does not, or None."""
    machine = checked_machine([first, second])
    return least_marked(machine, escaped_numbers(machine, [first, second]))


def only(bed, plant):
    """The canonical reader that marks exactly this plant; raises TooMany."""
    check_plant(bed, plant)
    numbers = {}
    waiting = []
    for kind in plant[::-1]:
        below = tuple([waiting.pop() for _ in range(bed.widths[kind])])
        if (kind, below) not in numbers:
            numbers[kind, below] = len(numbers)
        waiting.append(numbers[kind, below])
    rows = [(kind, below, number) for (kind, below), number in numbers.items()]
    # The one state more is that of all other plants; with it, 40 branches are too many for a reader.
    other = len(numbers)
    reader = Reader(bed, other + 1, tuple(rows), (waiting[0],), otherwise=other)
    return all_of(reader)


def everything(bed):
    """The canonical reader that marks every plant."""
    return Reader(bed, 1, (), (0,))
