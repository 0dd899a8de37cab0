"""Peaks: where two trims meet in one plant, and whether trims end alike."""

from shearyard.errors import NoPath, NoSpot, NotAlike
from shearyard.finishing import Finisher
from shearyard.forest import nodes_at
from shearyard.groves import Grove
from shearyard.stumps import HOLE, union_of
from shearyard.tagged import check_tagged, with_tags
from shearyard.trees import ends_of, paths_of
from shearyard.trimming import walked
from shearyard.walks import walk


def peaks(trims):
    """All peaks (plant, i, path, j), ordered by i, then by the path's place in the stump i, then by j."""
    ends = [ends_of(trims.bed, trim.stump) for trim in trims.trims]
    found = []
    for index, trim in enumerate(trims.trims):
        for place, path in enumerate(paths_of(trims.bed, trim.stump)):
            if trim.stump[place] == HOLE:
                continue
            for other in range(len(trims.trims)):
                # At the root, the two trims make one peak, and a trim makes none with itself.
                plant = None if path == () and other <= index else peak_plant(trims, ends, index, place, other)
                if plant is not None:
                    found.append((plant, index, path, other))
    return tuple(found)


def peak_plant(trims, ends, index, place, other):
    """The plant of the peak of a trim and another one at this place of its stump, or None."""
    stump = trims.trims[index].stump
    union = union_of(stump, ends[index], place, trims.trims[other].stump, ends[other])
    if union is None:
        return None
    return with_tags([*stump[:place], *union, *stump[ends[index][place]:]])


def sides_of(grove, peak):
    """The nodes of the plants to which the two trims of the peak lead."""
    plant, index, path, other = peak
    node = nodes_at(grove.forest, grove.bed, plant)[0]
    return grove.trimmed(node, index), grove.trimmed_at(node, path, other)


def least_split(trims):
    """A least peak whose two trims do not lead to one end, or None.

    Everything smaller than such a peak has one end, so for it, and for whether there is one at all, the order in which
    a plant is finished does not matter.
    """
    grove = Grove(trims)
    finisher = Finisher(grove)
    for peak in sorted(peaks(trims), key=lambda one: len(one[0])):
        first, second = sides_of(grove, peak)
        if finisher.finished_node(first) != finisher.finished_node(second):
            return peak
    return None


def ends_alike(trims):
    """Whether every open plant has exactly one end."""
    return least_split(trims) is None


def check_alike(trims):
    """Raise NotAlike if the trims do not end alike."""
    if not ends_alike(trims):
        raise NotAlike()


def peak_ways(grove, peak):
    """The spots that are taken from the peak on if each of its two trims comes first; none behind them if they meet."""
    _, index, path, other = peak
    sides = sides_of(grove, peak)
    first, second = [() if sides[0] == sides[1] else walk(grove, side, False)[0] for side in sides]
    return (((), index), *first), ((path, other), *second)


def two_ways(trims):
    """A least open plant with two ends and the spots that lead to two of them, or None if trims end alike."""
    peak = least_split(trims)
    if peak is None:
        return None
    return (peak[0], *peak_ways(Grove(trims), peak))


def meetings(trims):
    """For each peak two tuples of spots that lead from it to the same plant; raises NotAlike."""
    check_alike(trims)
    grove = Grove(trims)
    return tuple([peak_ways(grove, peak) for peak in peaks(trims)])


def is_meeting_paper(trims, paper):
    """Whether the paper leads from each peak, by either of its trims, to a common plant."""
    tops = peaks(trims)
    if len(paper) != len(tops):
        return False
    for peak, pair in zip(tops, paper):
        if len(pair) != 2 or not meets(trims, peak, pair):
            return False
    return True


def meets(trims, peak, pair):
    """Whether the two tuples of spots begin with the trims of the peak and lead to the same plant."""
    plant, index, path, other = peak
    first, second = pair
    if first[:1] != (((), index),) or second[:1] != ((path, other),):
        return False
    try:
        return walked(trims, plant, first) == walked(trims, plant, second)
    except (NoPath, NoSpot):
        return False


def joined(trims, first, second):
    """Whether two plants can be trimmed to a common plant; raises NotAlike."""
    for plant in (first, second):
        check_tagged(trims.bed, plant)
    check_alike(trims)
    grove = Grove(trims)
    finisher = Finisher(grove)
    nodes = [nodes_at(grove.forest, trims.bed, plant)[0] for plant in (first, second)]
    return finisher.finished_node(nodes[0]) == finisher.finished_node(nodes[1])
