"""The two least marked plants of a machine, and whether there is more than one."""

from shearyard.least import least_codes
from shearyard.limits import MOST_KNOTS


def plural_numbers(machine):
    """The numbers of the machine that more than one plant has, as the keys of a dict."""
    rows = rows_by_result(machine)
    plural = {number: True for number, found in enumerate(rows) if len(found) > 1}
    grown = True
    while grown:
        grown = False
        for number, found in enumerate(rows):
            if number not in plural and any([other in plural for other in found[0][1]]):
                plural[number] = True
                grown = True
    return plural


def rows_by_result(machine):
    """For each number of the machine the pairs of a kind and the numbers below that lead to it."""
    rows = [[] for _ in machine.joints]
    for kind, table in machine.cells.items():
        for below, result in table.items():
            rows[result].append((kind, below))
    return rows


def two_least(machine, marks):
    """The codes of the two least plants whose numbers are marked; fewer if the others have more than 2,000 knots."""
    codes = least_codes(machine)
    seconds = second_codes(machine, codes)
    found = [code for number in marks for code in (codes.get(number), seconds.get(number)) if code is not None]
    return sorted(found, key=lambda code: (len(code), code))[:2]


def second_codes(machine, codes):
    """For each number the code of its second plant in ascending order, where it has at most 2,000 knots.

    Beside the least plant of each row but that of the least plant itself, only that row counts, with the second plant
    at one place. What stands there is smaller, so it is known if the numbers are gone through in ascending order.
    """
    rows = rows_by_result(machine)
    seconds = {}
    for number, code in codes.items():
        best = None
        for kind, below in rows[number]:
            best = lesser(best, least_other(machine.bed, codes, seconds, (kind, below), code))
        if best is not None:
            seconds[number] = best[1]
    return seconds


def least_other(bed, codes, seconds, row, least):
    """The size and the code of the least plant known of this row other than the least one, or None."""
    kind, below = row
    if not all([number in codes for number in below]):
        return None
    pieces = [codes[number] for number in below]
    best = sized_code(bed.ranks[kind], pieces)
    if best is None or best[1] != least:
        return best
    best = None
    for place, number in enumerate(below):
        if number in seconds:
            best = lesser(best, sized_code(bed.ranks[kind], [*pieces[:place], seconds[number], *pieces[place + 1:]]))
    return best


def sized_code(rank, pieces):
    """The size and the code of the plant with this rank at the root and these codes of branches; None if too large."""
    size = 1 + sum([len(piece) for piece in pieces])
    if size > MOST_KNOTS:
        return None
    code = (rank,)
    for piece in pieces:
        code = code + piece
    return size, code


def lesser(first, second):
    """The lesser one of two, of which either may be None."""
    if first is None or second is None:
        return second if first is None else first
    return min(first, second)
