"""Classes of exchangeable plants, and the canonical reader that has one state for each of them."""

from shearyard.errors import TooMany
from shearyard.least import least_codes
from shearyard.limits import MOST_KNOTS
from shearyard.readers import Reader
from shearyard.rows import all_rows


def columns_of(machine):
    """The different columns of the machine: each lists what becomes of a knot if one number below takes each value."""
    numbers = list(range(len(machine.joints)))
    found = {}
    for kind, many in machine.bed.rows:
        table = machine.cells[kind]
        for place in range(many):
            # What stands beside the changing number is split at its place.
            for row in all_rows(numbers, many - 1):
                before, behind = row[:place], row[place:]
                found[tuple([table[before + (number,) + behind] for number in numbers])] = True
    return list(found)


def classes_of(machine, marks):
    """For each number of the machine its class: numbers of one class cannot be told apart by what is above them."""
    columns = columns_of(machine)
    classes = [number in marks for number in range(len(machine.joints))]
    while True:
        signs = {}
        refined = []
        for number, known in enumerate(classes):
            sign = (known, tuple([classes[column[number]] for column in columns]))
            refined.append(signs.setdefault(sign, len(signs)))
        if len(signs) == len(set(classes)):
            return refined
        classes = refined


def canonical_reader(machine, marks):
    """The canonical reader that marks the plants with these numbers of the machine; raises TooMany."""
    classes = classes_of(machine, marks)
    states = {}
    chosen = []
    for number in least_codes(machine):
        if classes[number] not in states:
            states[classes[number]] = len(chosen)
            chosen.append(number)
    if len(chosen) < len(set(classes)):
        raise TooMany("knots", MOST_KNOTS)
    state_of = [states[known] for known in classes]
    return chosen_reader(machine, chosen, state_of, [state_of[number] for number in marks])


def chosen_reader(machine, chosen, states, marked):
    """The reader in which each chosen number stands for its class; `states` holds the state of each number."""
    rows = []
    for kind, many in machine.bed.rows:
        for below in all_rows(list(range(len(chosen))), many):
            row = tuple([chosen[state] for state in below])
            rows.append((kind, below, states[machine.cells[kind][row]]))
    results = [row[2] for row in rows]
    # Leaving out the rows of the most frequent state keeps readers small and work with them quick.
    usual = max(list(range(len(chosen))), key=lambda state: results.count(state))
    kept = tuple([row for row in rows if row[2] != usual])
    return Reader(machine.bed, len(chosen), kept, tuple(sorted(set(marked))), otherwise=usual)
