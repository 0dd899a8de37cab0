"""All plants of a bed, listed and counted by their numbers of knots."""

from shearyard.limits import MOST_BRANCHES
from shearyard.listing import listed


def rows_of_plants(bed, knots):
    """Item [k][n] is the number of rows of n plants that have k knots together, for k and n up to `knots`."""
    counts = [[1] + [0] * (knots + MOST_BRANCHES)]
    for _ in range(knots):
        fewer = counts[-1]
        # Taking the root off the first plant of a row leaves its branches in front of the others.
        more = [0]
        for many in range(1, knots + 1):
            more.append(sum([fewer[many - 1 + width] for _, width in bed.rows]))
        counts.append(more + [0] * MOST_BRANCHES)
    return counts


class Slots:
    """The guide to all plants with one number of knots; a spot says how many branches and knots are missing."""

    def __init__(self, bed, knots):
        self.bed = bed
        self.knots = knots
        self.counts = rows_of_plants(bed, knots)

    def first(self):
        """The spot before the root."""
        return (1, self.knots)

    def after(self, spot, kind):
        """The spot behind one more knot."""
        slots = spot[0] - 1 + self.bed.widths[kind]
        knots = spot[1] - 1
        if slots > knots or self.counts[knots][slots] == 0:
            return None
        return (slots, knots) if slots > 0 else ()


def plants_of(bed, knots):
    """Yield all plants with exactly that many knots in ascending order."""
    if knots > 0:
        guide = Slots(bed, knots)
        yield from listed(bed.kinds, guide)


def plants_upto(bed, knots):
    """Yield all plants with at most that many knots in ascending order."""
    for many in range(1, knots + 1):
        yield from plants_of(bed, many)


def number_of(bed, knots):
    """The number of plants with exactly that many knots."""
    return rows_of_plants(bed, knots)[knots][1] if knots > 0 else 0
