"""Accounts: the numbers of knots by kind of a plant and of what comes out of a garden, however large that is."""

from shearyard.errors import Refused
from shearyard.oneness import admitted, one_shear
from shearyard.plants import check_plant
from shearyard.trees import ends_of, starts_above


def account(garden, plant):
    """The numbers of knots by kind of the plant and of what comes out; raises TooMany and Refused."""
    check_plant(garden.bed, plant)
    reader = admitted(garden)
    shear = one_shear(garden)
    if plant not in reader:
        raise Refused(-1, plant)
    return account_of(shear, plant)


def account_of(shear, plant):
    """The numbers of knots by kind of the plant and of what comes out of the shear; counted, not built."""
    bed = shear.bed
    counts = {kind: 0 for kind in bed.kinds}
    ends = ends_of(bed, plant)
    # For each knot the numbers of times for which its branch is worked, by the state.
    times = [{} for _ in plant]
    times[0][shear.start] = 1
    for place, kind in enumerate(plant):
        starts = starts_above(bed, plant, ends, place)
        for state, many in list(times[place].items()):
            for entry in shear.results[state][kind]:
                if isinstance(entry, tuple):
                    called = times[starts[entry[1]]]
                    called[entry[0]] = called.get(entry[0], 0) + many
                else:
                    counts[entry] += many
        # What has been counted is left behind, so that a large plant does not keep large numbers.
        times[place] = {}
    return tuple([plant.count(kind) for kind in bed.kinds] + [counts[kind] for kind in bed.kinds])
