"""Least plants of readers, and canonical readers."""

from shearyard.classes import canonical_reader
from shearyard.errors import TooMany
from shearyard.least import decoded, least_codes, least_marked
from shearyard.limits import MOST_KNOTS
from shearyard.machines import joint_machine


def least_plants(reader):
    """For each state the least plant that has it, or None if no plant has it; raises TooMany."""
    machine = joint_machine([reader])
    codes = least_codes(machine)
    if len(codes) < len(machine.joints):
        raise TooMany("knots", MOST_KNOTS)
    plants = [None] * reader.states
    for number, (state,) in enumerate(machine.joints):
        plants[state] = decoded(reader.bed, codes[number])
    return tuple(plants)


def marked_numbers(machine, reader):
    """The numbers of the marked states in the machine of this reader."""
    return [number for number, (state,) in enumerate(machine.joints) if state in reader.marks]


def canonical(reader):
    """The reader with one state for each class of exchangeable plants; raises TooMany."""
    machine = joint_machine([reader])
    return canonical_reader(machine, marked_numbers(machine, reader))


def least_in(reader):
    """The least marked plant, or None; raises TooMany."""
    machine = joint_machine([reader])
    return least_marked(machine, marked_numbers(machine, reader))
