"""Plants: tuples of kinds in preorder."""

from shearyard.errors import InvalidPlant, WrongBranches
from shearyard.trees import check_size, ends_of, fault_place, levels_in, paths_of, span_at, starts_above


def check_plant(bed, plant):
    """Raise TooMany or InvalidPlant if the tuple is not a plant of the bed."""
    check_size(plant)
    place = fault_place(bed, plant, ())
    if place is not None:
        raise InvalidPlant(place)


def plant_key(bed, plant):
    """The number of knots and the ranks of the entries, for sorting."""
    check_plant(bed, plant)
    return len(plant), tuple([bed.ranks[kind] for kind in plant])


def height(bed, plant):
    """The number of knots on the longest path."""
    check_plant(bed, plant)
    return levels_in(bed, plant)


def counted(bed, plant):
    """The numbers of knots of each kind, in the order of the kinds."""
    check_plant(bed, plant)
    return tuple([plant.count(kind) for kind in bed.kinds])


def branches_of(bed, plant):
    """The branches of the root."""
    check_plant(bed, plant)
    ends = ends_of(bed, plant)
    return tuple([plant[start:ends[start]] for start in starts_above(bed, plant, ends, 0)])


def planted(bed, kind, *below):
    """The plant with this kind at the root and these branches."""
    wanted = bed.branches(kind)
    if len(below) != wanted:
        raise WrongBranches(wanted, len(below))
    plant = (kind,)
    for branch in below:
        check_plant(bed, branch)
        plant = plant + branch
    check_size(plant)
    return plant


def paths(bed, plant):
    """The paths of all knots in preorder."""
    check_plant(bed, plant)
    return tuple(paths_of(bed, plant))


def branch_at(bed, plant, path):
    """The branch whose root is the knot at the path."""
    check_plant(bed, plant)
    start, end = span_at(bed, plant, path)
    return plant[start:end]


def replaced(bed, plant, path, other):
    """The plant with the other plant in place of the branch at the path."""
    check_plant(bed, plant)
    start, end = span_at(bed, plant, path)
    check_plant(bed, other)
    result = plant[:start] + other + plant[end:]
    check_size(result)
    return result
