"""Prices: what it costs to change one plant into another one."""

from shearyard.beds import check_beds
from shearyard.canon import canonical
from shearyard.changes import cheapest_change, nearest_pair
from shearyard.errors import InvalidPrices, TooMany
from shearyard.forest import entries_of
from shearyard.least import decoded
from shearyard.limits import MOST_KNOTS
from shearyard.plants import check_plant
from shearyard.trees import ends_of

MOST_PRICE = 1000


def check_swaps(bed, swaps):
    """Raise InvalidPrices for the first invalid swap."""
    seen = set()
    for place, (kind, other, cost) in enumerate(swaps):
        if kind not in bed.widths or other not in bed.widths or kind == other or not is_price(cost):
            raise InvalidPrices(place)
        if bed.widths[kind] != bed.widths[other] or (kind, other) in seen:
            raise InvalidPrices(place)
        seen.add((kind, other))


def is_price(number):
    """Whether this may be a price."""
    return 0 <= number <= MOST_PRICE


class Prices:
    """The price of cutting a branch, and the prices of swaps of kinds."""

    def __init__(self, bed, cutting, *swaps):
        if not is_price(cutting):
            raise InvalidPrices(-1)
        check_swaps(bed, swaps)
        self.bed = bed
        self.cutting = cutting
        self.swaps = swaps
        # For each kind what it can be changed into, itself included, and at which price.
        self.turns = {kind: {kind: 0} for kind in bed.kinds}
        for kind, other, cost in swaps:
            self.turns[kind][other] = cost


def price(prices, plant, other):
    """The least price of a change from the first plant to the other one, or None."""
    bed = prices.bed
    check_plant(bed, plant)
    check_plant(bed, other)
    ends = ends_of(bed, plant)
    total = 0
    place = 0
    for kind in other:
        cost = prices.turns[plant[place]].get(kind)
        place = place + 1 if cost is not None else ends[place]
        if bed.widths[kind] == 0:
            cost = prices.cutting if cost is None else min(cost, prices.cutting)
        if cost is None:
            return None
        total += cost
    return total


def cheapest(prices, plant, reader):
    """The least price of a change into a marked plant, and the least such plant at this price; or None."""
    check_beds([prices.bed, reader.bed])
    check_plant(prices.bed, plant)
    found = cheapest_change(prices, plant, reader)
    if found is None:
        return None
    forest, total, node = found
    return total, entries_of(forest, node)


def nearest(prices, first, second):
    """The least price of a change from a plant of the first reader to one of the second, and these plants; or None."""
    check_beds([prices.bed, first.bed, second.bed])
    found = nearest_pair(prices, canonical(first), canonical(second))
    if found is None:
        return None
    total, size, code, _, other_code = found
    if size > MOST_KNOTS:
        raise TooMany("knots", MOST_KNOTS)
    return total, decoded(prices.bed, code), decoded(prices.bed, other_code)
