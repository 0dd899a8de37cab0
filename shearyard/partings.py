"""Parting two gardens, each of which is given by its admitted reader and its one shear."""

from shearyard.errors import TooMany
from shearyard.least import decoded
from shearyard.limits import MOST_KNOTS
from shearyard.lots import all_of, apart
from shearyard.oneness import admitted, one_shear
from shearyard.plants import plant_key
from shearyard.searching import Search


def parts_of(garden):
    """The admitted reader and the one shear of a garden; raises TooMany."""
    return admitted(garden), one_shear(garden)


def searched(first, second):
    """The search for all equations of two gardens; raises TooMany."""
    return Search(all_of(first[0], second[0]), (first[1], second[1]))


def least_parting(first, second, search):
    """The least plant that parts two gardens, or None; raises TooMany."""
    bed = first[0].bed
    refused = apart(first[0], second[0])
    code = search.least_fault()
    if code is None:
        if refused is None and len(search.faults) > 0:
            raise TooMany("knots", MOST_KNOTS)
        return refused
    plant = decoded(bed, code)
    if refused is not None and plant_key(bed, refused) < plant_key(bed, plant):
        return refused
    for _, shear in (first, second):
        # Both outcomes belong to the answer, so they are subject to the limit of what comes out of a shear.
        shear.work(plant)
    return plant


def parted(first, second):
    """The least plant that parts two gardens, or None; raises TooMany."""
    return least_parting(first, second, searched(first, second))
