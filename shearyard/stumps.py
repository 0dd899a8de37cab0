"""Stumps: plants in which any branch may be a hole."""

from shearyard.errors import InvalidStump, WrongBranches
from shearyard.trees import check_size, ends_of, fault_place, paths_of

HOLE = "*"


def check_stump(bed, stump):
    """Raise TooMany or InvalidStump if the tuple is not a stump of the bed."""
    check_size(stump)
    place = fault_place(bed, stump, (HOLE,))
    if place is not None:
        raise InvalidStump(place)


def check_stumps(bed, stumps):
    """Check several stumps in order."""
    for stump in stumps:
        check_stump(bed, stump)


def stump_key(bed, stump):
    """The number of entries and their ranks, for sorting; a hole ranks after all kinds."""
    check_stump(bed, stump)
    return len(stump), tuple([bed.ranks.get(entry, len(bed.kinds)) for entry in stump])


def holes(bed, stump):
    """The paths of the holes in preorder."""
    check_stump(bed, stump)
    return tuple([path for path, entry in zip(paths_of(bed, stump), stump) if entry == HOLE])


def filled(bed, stump, *pieces):
    """The stump with these stumps in its holes, from left to right."""
    check_stump(bed, stump)
    wanted = stump.count(HOLE)
    if len(pieces) != wanted:
        raise WrongBranches(wanted, len(pieces))
    check_stumps(bed, pieces)
    entries = filled_holes(stump, pieces)
    check_size(entries)
    return tuple(entries)


def filled_holes(stump, pieces):
    """The entries of the stump with these pieces in its holes, unchecked."""
    entries = []
    given = 0
    for entry in stump:
        if entry == HOLE:
            entries.extend(pieces[given])
            given += 1
        else:
            entries.append(entry)
    return entries


def begins(bed, stump, other):
    """Whether the stump begins the other one."""
    return parts(bed, stump, other) is not None


def parts(bed, stump, other):
    """What stands at the stump's holes in the other one, or None if the stump does not begin it."""
    check_stumps(bed, (stump, other))
    return parts_in(bed, stump, other)


def parts_in(bed, stump, tree):
    """What stands at the stump's holes in a tree, unchecked, or None if the stump does not begin it."""
    return parts_from(stump, tree, ends_of(bed, tree), 0)


def parts_from(stump, tree, ends, place):
    """What stands at the stump's holes in a tree's branch at this place, or None if the stump does not begin it."""
    found = []
    for entry in stump:
        if entry == HOLE:
            found.append(tree[place:ends[place]])
            place = ends[place]
        elif entry == tree[place]:
            place += 1
        else:
            return None
    return tuple(found)


def places_of(bed, stump, tree):
    """The places of a tree at whose branches the stump begins, unchecked."""
    ends = ends_of(bed, tree)
    return [place for place in range(len(tree)) if parts_from(stump, tree, ends, place) is not None]


def common(bed, first, *others):
    """The largest stump that begins all of these stumps."""
    check_stumps(bed, (first, *others))
    shared = first
    for other in others:
        shared = shared_stump(bed, shared, other)
    return shared


def shared_stump(bed, first, second):
    """The common stump of two stumps."""
    entries = []
    for branch, other in compared(bed, first, second):
        entries.extend(branch if branch == other else (HOLE,))
    return tuple(entries)


def compared(bed, first, second):
    """The pairs of equal entries of two stumps from the root on, and of the whole branches where the entries differ."""
    first_ends, second_ends = ends_of(bed, first), ends_of(bed, second)
    pairs = []
    left = right = 0
    while left < len(first):
        left_end, right_end = left + 1, right + 1
        if first[left] != second[right]:
            left_end, right_end = first_ends[left], second_ends[right]
        pairs.append((first[left:left_end], second[right:right_end]))
        left, right = left_end, right_end
    return pairs


def united(bed, first, second):
    """The least stump that both stumps begin, or None."""
    check_stumps(bed, (first, second))
    entries = union_of(first, ends_of(bed, first), 0, second, ends_of(bed, second))
    if entries is None:
        return None
    check_size(entries)
    return tuple(entries)


def union_of(first, first_ends, left, second, second_ends):
    """The entries of the union of the first stump's branch at the place `left` and the second stump, or None."""
    entries = []
    right = 0
    while right < len(second):
        # From where on and up to where the one of the two is kept, while the other one may have a hole.
        left_end, right_end = left + 1, right + 1
        if first[left] == second[right] or second[right] == HOLE:
            left_end = left + 1 if first[left] == second[right] else first_ends[left]
            entries.extend(first[left:left_end])
        elif first[left] == HOLE:
            right_end = second_ends[right]
            entries.extend(second[right:right_end])
        else:
            return None
        left, right = left_end, right_end
    return entries
