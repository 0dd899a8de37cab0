"""The plain twin: answers that are found by trying every plant of up to some number of knots."""

from shearyard.beds import check_beds
from shearyard.errors import Refused
from shearyard.growing import plants_upto
from shearyard.plants import check_plant, counted
from shearyard.prices import price
from shearyard.trimming import ends
from shearyard.weighing import check_weighing


def led(garden, plant):
    """What comes out of the garden, or None if the plant is refused."""
    try:
        return garden(plant)
    except Refused:
        return None


def plain_parting(first, second, knots):
    """The least plant of at most that many knots that parts two gardens, or None."""
    check_beds([first.bed, second.bed])
    for plant in plants_upto(first.bed, knots):
        if led(first, plant) != led(second, plant):
            return plant
    return None


def plain_unmarked(garden, reader, knots):
    """The least admitted plant of at most that many knots whose outcome the reader does not mark, or None."""
    check_beds([garden.bed, reader.bed])
    for plant in plants_upto(garden.bed, knots):
        outcome = led(garden, plant)
        if outcome is not None and outcome not in reader:
            return plant
    return None


def plain_two_ends(trims, knots):
    """The least plant of the bed of at most that many knots with two ends or more, or None."""
    for plant in plants_upto(trims.bed, knots):
        if len(ends(trims, plant)) > 1:
            return plant
    return None


def plain_breaking(garden, weighing, knots):
    """The least admitted plant of at most that many knots for which the weighing does not hold, or None."""
    bed = garden.bed
    check_weighing(bed, weighing)
    for plant in plants_upto(bed, knots):
        outcome = led(garden, plant)
        if outcome is not None:
            counts = counted(bed, plant) + counted(bed, outcome)
            if sum([weight * count for weight, count in zip(weighing, counts)]) != weighing[-1]:
                return plant
    return None


def plain_change(prices, plant, reader, knots):
    """The least price of a change into a marked plant of at most that many knots, and the least such plant; or None."""
    check_beds([prices.bed, reader.bed])
    check_plant(prices.bed, plant)
    best = None
    for other in plants_upto(prices.bed, knots):
        cost = price(prices, plant, other) if other in reader else None
        if cost is not None and (best is None or cost < best[0]):
            best = (cost, other)
    return best
