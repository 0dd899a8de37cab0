"""Open plants: plants that may have tags, which are integers not below 0, as leaves (point 48)."""

from shearyard.errors import InvalidPlant
from shearyard.stumps import HOLE
from shearyard.trees import check_size, fault_place


def check_tagged(bed, plant):
    """Raise TooMany or InvalidPlant if the tuple is not an open plant of the bed."""
    check_size(plant)
    tags = {entry: True for entry in plant if isinstance(entry, int) and entry >= 0}
    place = fault_place(bed, plant, tags)
    if place is not None:
        raise InvalidPlant(place)


def tagged_key(bed, plant):
    """The number of entries and their ranks, for sorting; tags rank after all kinds, lesser ones first."""
    kinds = len(bed.kinds)
    return len(plant), tuple([bed.ranks[entry] if isinstance(entry, str) else kinds + entry for entry in plant])


def with_tags(stump):
    """The stump, or its entries, in which the holes are tags, numbered from left to right."""
    entries = []
    tag = 0
    for entry in stump:
        entries.append(tag if entry == HOLE else entry)
        tag += 1 if entry == HOLE else 0
    return tuple(entries)
