"""Counting and listing the plants that a reader marks."""

from shearyard.demands import Demands
from shearyard.listing import listed
from shearyard.machines import joint_machine
from shearyard.tallies import Tally


def number_in(reader, knots):
    """The number of marked plants with exactly that many knots."""
    if knots < 1:
        return 0
    tally = Tally(reader, knots)
    for _ in range(knots):
        tally.grow()
    return sum([tally.columns[mark][knots] for mark in reader.marks])


def each_in(reader, knots):
    """Yield the marked plants with at most that many knots in ascending order."""
    if knots < 1:
        return
    tally = Tally(reader, knots)
    for many in range(1, knots + 1):
        tally.grow()
        if any([tally.columns[mark][many] > 0 for mark in reader.marks]):
            guide = Demands(reader, tally.masks, many)
            yield from listed(reader.bed.kinds, guide)


def finite(reader):
    """Whether the reader marks only finitely many plants."""
    machine = joint_machine([reader])
    above = numbers_above(machine)
    useful = useful_numbers(machine, reader, above)
    # A circle of useful states is a piece of plant that can be repeated as often as one likes.
    while True:
        ends = [number for number in useful if not any([other in useful for other in above[number]])]
        if len(ends) == 0:
            return len(useful) == 0
        useful = [number for number in useful if number not in ends]


def numbers_above(machine):
    """For each number of a machine the numbers that a knot directly below which it stands can have."""
    above = [{} for _ in machine.joints]
    for table in machine.cells.values():
        for below, result in table.items():
            for number in below:
                above[number][result] = True
    return above


def useful_numbers(machine, reader, above):
    """The numbers of a reader's machine that stand for a branch, or the whole, of some marked plant."""
    useful = [number for number, (state,) in enumerate(machine.joints) if state in reader.marks]
    grown = True
    while grown:
        grown = False
        for number, results in enumerate(above):
            if number not in useful and any([result in useful for result in results]):
                useful.append(number)
                grown = True
    return useful
