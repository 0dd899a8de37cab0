"""Vectors of integers of any size: lists that are independent, and the reduced form of rows."""

from math import gcd, lcm


def divided(vector):
    """The vector without a common divisor above 1."""
    common = 0
    for number in vector:
        common = gcd(common, number)
        if common == 1:
            return vector
    return vector if common == 0 else [number // common for number in vector]


def lead_of(vector):
    """The index of the first number other than 0, or None."""
    for index, number in enumerate(vector):
        if number != 0:
            return index
    return None


def cleared(vector, row, lead):
    """A multiple of the vector less a multiple of the row, so that the number at the row's lead is 0."""
    if vector[lead] == 0:
        return vector
    common = gcd(vector[lead], row[lead])
    times, less = row[lead] // common, vector[lead] // common
    return divided([times * number - less * other for number, other in zip(vector, row)])


class Basis:
    """Independent vectors, each of which has a lead at which all later ones have 0."""

    def __init__(self):
        self.rows = []

    def take_in(self, vector):
        """Take up the vector if it is independent of those taken up; whether it is."""
        for lead, row in self.rows:
            vector = cleared(vector, row, lead)
        lead = lead_of(vector)
        if lead is not None:
            self.rows.append((lead, divided(vector)))
        return lead is not None


def reduced_rows(rows):
    """The reduced form of the space of these rows: leads are positive, move to the right and stand alone."""
    basis = Basis()
    for row in rows:
        basis.take_in(row)
    found = sorted(basis.rows, key=lambda pair: pair[0])
    return [alone(row, lead, found) for lead, row in found]


def alone(row, lead, found):
    """The row with a positive lead and with 0 at the leads of the others, which are given in ascending order."""
    for other_lead, other in found:
        if other_lead != lead:
            row = cleared(row, other, other_lead)
    return [-number for number in row] if row[lead] < 0 else row


def crossing_rows(rows, columns):
    """The reduced form of the space of all vectors whose products with each of these rows have the sum 0."""
    reduced = [(lead_of(row), row) for row in reduced_rows(rows)]
    leads = [lead for lead, _ in reduced]
    scale = 1
    for lead, row in reduced:
        scale = lcm(scale, row[lead])
    found = []
    for free in range(columns):
        if free not in leads:
            vector = [scale if column == free else 0 for column in range(columns)]
            for lead, row in reduced:
                vector[lead] = -row[free] * scale // row[lead]
            found.append(divided(vector))
    return reduced_rows(found)


def added(first, second):
    """The sum of two vectors."""
    return [one + other for one, other in zip(first, second)]


def product_sum(first, second):
    """The sum of the products of the numbers of two vectors."""
    return sum([one * other for one, other in zip(first, second)])
