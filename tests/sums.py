"""Slow and plain answers about accounts and weighings, found with fractions over all small plants."""

from fractions import Fraction
from math import gcd

from tests.gardening import outcome_of
from tests.reference import plants_to


def numbers(bed, plant):
    """The numbers of knots by kind."""
    return tuple([plant.count(kind) for kind in bed.kinds])


def small_accounts(garden, knots):
    """The accounts of all admitted plants of at most that many knots, each once, with a plant for each."""
    found = {}
    for plant in plants_to(garden.bed, knots):
        out = outcome_of(garden, plant)
        if out is not None:
            found.setdefault(numbers(garden.bed, plant) + numbers(garden.bed, out), plant)
    return found


def echelon(rows):
    """The reduced row echelon form with leading ones, as fractions; rows of zeros are left out."""
    rows = [[Fraction(number) for number in row] for row in rows]
    done = 0
    for column in range(len(rows[0]) if rows else 0):
        pivot = next((at for at in range(done, len(rows)) if rows[at][column] != 0), None)
        if pivot is None:
            continue
        rows[done], rows[pivot] = rows[pivot], rows[done]
        rows[done] = [number / rows[done][column] for number in rows[done]]
        for at, row in enumerate(rows):
            if at != done and row[column] != 0:
                rows[at] = [one - row[column] * other for one, other in zip(row, rows[done])]
        done += 1
    return rows[:done]


def rank(rows):
    """The number of independent rows."""
    return len(echelon(rows))


def whole(row):
    """The row of fractions as integers without a common divisor."""
    scale = 1
    for number in row:
        scale = scale * number.denominator // gcd(scale, number.denominator)
    found = [int(number * scale) for number in row]
    return tuple([number // gcd(*found) for number in found])


def weighings_of(accounts, columns):
    """The reduced form of all weighings that hold for these accounts."""
    rows = echelon([[*account, -1] for account in accounts])
    leads = [next(at for at, number in enumerate(row) if number != 0) for row in rows]
    free = [column for column in range(columns) if column not in leads]
    found = []
    for column in free:
        vector = [Fraction(0)] * columns
        vector[column] = Fraction(1)
        for lead, row in zip(leads, rows):
            vector[lead] = -row[column]
        found.append(vector)
    return tuple([whole(row) for row in echelon(found)])


def holds_for(weighing, account):
    """Whether the weighing holds for the account."""
    return sum([weight * number for weight, number in zip(weighing, account)]) == weighing[-1]
