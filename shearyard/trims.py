"""Trims: what takes the place of a branch that begins with a stump, and makes the plant smaller."""

from shearyard.beds import check_beds
from shearyard.errors import InvalidStump, InvalidTrim, TooMany
from shearyard.limits import MOST_ENTRIES, MOST_TRIMS
from shearyard.stumps import HOLE
from shearyard.trees import fault_place


def check_trim(bed, stump, result):
    """Raise TooMany, InvalidStump or InvalidTrim if the stump and the result are not those of a trim."""
    if len(stump) > MOST_ENTRIES or len(result) > MOST_ENTRIES:
        raise TooMany("entries", MOST_ENTRIES)
    place = fault_place(bed, stump, (HOLE,))
    if place is not None:
        raise InvalidStump(place)
    if stump == (HOLE,):
        raise InvalidTrim(-1)
    place = result_fault(bed, stump.count(HOLE), result)
    if place is not None:
        raise InvalidTrim(place)
    if knots_in(bed, result) >= knots_in(bed, stump):
        raise InvalidTrim(-2)


def result_fault(bed, holes, result):
    """The first place at which this is not a result with numbers below `holes`, each at most once; or None."""
    fault = fault_place(bed, result, list(range(holes)))
    for place, entry in enumerate(result[:fault]):
        if isinstance(entry, int) and entry in result[:place]:
            return place
    return fault


def knots_in(bed, entries):
    """The number of entries that are kinds."""
    return len([entry for entry in entries if entry in bed.widths])


class Trim:
    """A stump, and a result in which the numbers of the stump's holes stand for what stood there."""

    def __init__(self, bed, stump, result):
        check_trim(bed, stump, result)
        self.bed = bed
        self.stump = stump
        self.result = result


class Trims:
    """A set of trims, which are known by their indexes."""

    def __init__(self, bed, *trims, name="trims"):
        check_beds([bed, *[trim.bed for trim in trims]])
        if len(trims) > MOST_TRIMS:
            raise TooMany("trims", MOST_TRIMS)
        self.bed = bed
        self.trims = trims
        self.name = name

    def __len__(self):
        return len(self.trims)
