"""Orders of gardeners, and gardens that are worked again and again."""

from itertools import permutations

from shearyard.alike import parting, same
from shearyard.beds import check_beds
from shearyard.errors import TooMany
from shearyard.gardens import Garden
from shearyard.limits import MOST_ORDERED
from shearyard.oneness import as_one
from shearyard.partings import parted, parts_of


def checked_orders(bed, gardeners):
    """All orders of the gardeners' indexes, ascending; raises OtherBed and TooMany."""
    check_beds([bed, *[gardener.bed for gardener in gardeners]])
    if len(gardeners) > MOST_ORDERED:
        raise TooMany("gardeners", MOST_ORDERED)
    return list(permutations(range(len(gardeners))))


def parts_in_order(bed, gardeners, order):
    """The admitted reader and the one shear of the gardeners in this order; raises TooMany."""
    row = [gardeners[index] for index in order]
    return parts_of(Garden(bed, *row))


def orders(bed, *gardeners):
    """The groups of orders whose gardens do the same, ascending by their first orders; raises TooMany."""
    groups = []
    firsts = []
    for order in checked_orders(bed, gardeners):
        parts = parts_in_order(bed, gardeners, order)
        place = place_of_same(parts, firsts)
        if place is None:
            groups.append([order])
            firsts.append(parts)
        else:
            groups[place].append(order)
    return tuple([tuple(group) for group in groups])


def place_of_same(parts, firsts):
    """The place of the first one of these gardens that does the same as a garden, or None; raises TooMany."""
    for place, first in enumerate(firsts):
        if parted(parts, first) is None:
            return place
    return None


def any_order(bed, *gardeners):
    """Whether the gardens of all orders do the same; raises TooMany."""
    first, *others = checked_orders(bed, gardeners)
    parts = parts_in_order(bed, gardeners, first)
    for order in others:
        if parted(parts, parts_in_order(bed, gardeners, order)) is not None:
            return False
    return True


def settles(garden, *, most=4):
    """The least number of copies of a garden, at most `most`, that do the same as one copy more; raises TooMany."""
    copies = Garden(garden.bed)
    one = as_one(garden)
    more = one
    for many in range(most + 1):
        if same(copies, more):
            return many
        if many < most:
            copies = more
            more = as_one(copies + one)
    return None


def undone(first, second):
    """The least plant that the first garden admits and the second one does not lead back to itself, or None."""
    check_beds([first.bed, second.bed])
    there = as_one(first)
    # Its gate alone is the garden that returns every admitted plant unchanged.
    return parting(there + as_one(second), Garden(first.bed, there.gardeners[0]))
