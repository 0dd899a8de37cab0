"""Stumps: plants in which any branch may be a hole."""

from shearyard.errors import InvalidStump, WrongBranches
from shearyard.trees import check_size, ends_of, fault_place, paths_of

HOLE = "*"


def check_stump(bed, stump):
    """Raise TooMany or InvalidStump if the tuple is not a stump of the bed."""
    check_size(stump)
    place = fault_place(bed, stump, (HOLE,))
    if place is not None:
        raise InvalidStump(place)


def check_stumps(bed, stumps):
    """Check several stumps in order."""
    for stump in stumps:
        check_stump(bed, stump)


def stump_key(bed, stump):
    """The number of entries and their ranks, for sorting; a hole ranks after all kinds."""
    check_stump(bed, stump)
    return len(stump), tuple([bed.ranks.get(entry, len(bed.kinds)) for entry in stump])


def holes(bed, stump):
    """The paths of the holes in preorder."""
    check_stump(bed, stump)
    return tuple([path for path, entry in zip(paths_of(bed, stump), stump) if entry == HOLE])


def filled(bed, stump, *pieces):
    """The stump with these stumps in its holes, from left to right."""
    check_stump(bed, stump)
    wanted = stump.count(HOLE)
    if len(pieces) != wanted:
        raise WrongBranches(wanted, len(pieces))
    check_stumps(bed, pieces)
    entries = []
    given = 0
    for entry in stump:
        if entry == HOLE:
            entries.extend(pieces[given])
            given += 1
        else:
            entries.append(entry)
    check_size(entries)
    return tuple(entries)


def begins(bed, stump, other):
    """Whether the stump begins the other one."""
    return parts(bed, stump, other) is not None


def parts(bed, stump, other):
    """What stands at the stump's holes in the other one, or None if the stump does not begin it."""
    check_stumps(bed, (stump, other))
    ends = ends_of(bed, other)
    found = []
    place = 0
    for entry in stump:
        if entry == HOLE:
            found.append(other[place:ends[place]])
            place = ends[place]
        elif entry == other[place]:
            place += 1
        else:
            return None
    return tuple(found)


def common(bed, first, *others):
    """The largest stump that begins all of these stumps."""
    check_stumps(bed, (first, *others))
    shared = first
    for other in others:
        shared = shared_stump(bed, shared, other)
    return shared


def shared_stump(bed, first, second):
    """The common stump of two stumps."""
    first_ends, second_ends = ends_of(bed, first), ends_of(bed, second)
    entries = []
    left = right = 0
    while left < len(first):
        if first[left] == second[right]:
            entries.append(first[left])
            left += 1
            right += 1
        else:
            entries.append(HOLE)
            left, right = first_ends[left], second_ends[right]
    return tuple(entries)


def united(bed, first, second):
    """The least stump that both stumps begin, or None."""
    check_stumps(bed, (first, second))
    first_ends, second_ends = ends_of(bed, first), ends_of(bed, second)
    entries = []
    left = right = 0
    while left < len(first):
        if first[left] == second[right]:
            entries.append(first[left])
            left += 1
            right += 1
        elif HOLE in (first[left], second[right]):
            if first[left] == HOLE:
                entries.extend(second[right:second_ends[right]])
            else:
                entries.extend(first[left:first_ends[left]])
            left, right = first_ends[left], second_ends[right]
        else:
            return None
    check_size(entries)
    return tuple(entries)
