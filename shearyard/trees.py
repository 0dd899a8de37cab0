"""Trees in preorder, without checks: an entry that is no kind of the bed counts as a leaf.

Nothing here calls itself, because a tree may be a chain of 2,000 entries.
"""

from shearyard.errors import NoPath, TooMany
from shearyard.limits import MOST_KNOTS


def check_size(entries):
    """Raise TooMany if there are more entries than a plant or a stump may have."""
    if len(entries) > MOST_KNOTS:
        raise TooMany("knots", MOST_KNOTS)


def fault_place(bed, entries, leaves):
    """The first place from which on the entries are not one tree, or None; `leaves` may stand beside the kinds."""
    missing = 1
    for place, entry in enumerate(entries):
        if missing == 0:
            return place
        if entry in leaves:
            missing = missing - 1
        elif entry in bed.widths:
            missing = missing - 1 + bed.widths[entry]
        else:
            return place
    return None if missing == 0 else len(entries)


def ends_of(bed, tree):
    """For each entry, the place just behind its branch."""
    ends = [0 for _ in tree]
    for place in range(len(tree) - 1, -1, -1):
        end = place + 1
        for _ in range(bed.widths.get(tree[place], 0)):
            end = ends[end]
        ends[place] = end
    return ends


def starts_above(bed, tree, ends, place):
    """The places at which the branches of the entry at this place begin."""
    starts = []
    start = place + 1
    for _ in range(bed.widths.get(tree[place], 0)):
        starts.append(start)
        start = ends[start]
    return starts


def paths_of(bed, tree):
    """The paths of all entries in preorder."""
    paths = []
    waiting = [()]
    for entry in tree:
        path = waiting.pop()
        paths.append(path)
        for index in range(bed.widths.get(entry, 0) - 1, -1, -1):
            waiting.append(path + (index,))
    return paths


def levels_in(bed, tree):
    """The number of entries on the longest path."""
    best = 0
    levels = [1]
    for entry in tree:
        level = levels.pop()
        best = max(best, level)
        for _ in range(bed.widths.get(entry, 0)):
            levels.append(level + 1)
    return best


def span_at(bed, tree, path):
    """The place at which the branch at the path begins, and the place just behind it."""
    ends = ends_of(bed, tree)
    place = 0
    for index in path:
        starts = starts_above(bed, tree, ends, place)
        if index < 0 or index >= len(starts):
            raise NoPath(path)
        place = starts[index]
    return place, ends[place]
