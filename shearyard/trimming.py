"""Trimming plants: spots, ways to an end, and all ends."""

from shearyard.errors import NoSpot
from shearyard.forest import entries_of, nodes_at
from shearyard.groves import Grove
from shearyard.stumps import parts_in
from shearyard.tagged import check_tagged, tagged_key
from shearyard.trees import paths_of, span_at
from shearyard.walks import levels_from, walk


def grown_nodes(trims, plant):
    """A settled grove with the plant, and the nodes of the branches at all its knots; checks the plant."""
    check_tagged(trims.bed, plant)
    grove = Grove(trims)
    nodes = nodes_at(grove.forest, trims.bed, plant)
    grove.settle()
    return grove, nodes


def spots(trims, plant):
    """All spots: the pairs of a path and the index of a trim that fits there, in preorder and then by the index."""
    grove, nodes = grown_nodes(trims, plant)
    paths = paths_of(trims.bed, plant)
    return tuple([(path, index) for path, node in zip(paths, nodes) for index in grove.fitting[node]])


def cut_at(trims, plant, path, index):
    """The plant after the trim with this index at the path; raises NoPath and NoSpot."""
    check_tagged(trims.bed, plant)
    return cut_plant(trims, plant, path, index)


def cut_plant(trims, plant, path, index):
    """The plant after the trim with this index at the path, without a check of the plant."""
    start, stop = span_at(trims.bed, plant, path)
    if not 0 <= index < len(trims.trims):
        raise NoSpot(path, index)
    trim = trims.trims[index]
    parts = parts_in(trims.bed, trim.stump, plant[start:stop])
    if parts is None:
        raise NoSpot(path, index)
    entries = []
    for entry in trim.result:
        entries.extend(parts[entry] if isinstance(entry, int) else (entry,))
    return plant[:start] + tuple(entries) + plant[stop:]


def way(trims, plant, *, last=False):
    """The spots that are taken if the first, or the last, spot is taken until the plant is finished."""
    grove, nodes = grown_nodes(trims, plant)
    return tuple(walk(grove, nodes[0], last)[0])


def end(trims, plant, *, last=False):
    """The finished plant to which the way leads."""
    grove, nodes = grown_nodes(trims, plant)
    return entries_of(grove.forest, walk(grove, nodes[0], last)[1])


def walked(trims, plant, spots):
    """The plant after trims at these spots, one after another; raises NoPath and NoSpot."""
    check_tagged(trims.bed, plant)
    for path, index in spots:
        plant = cut_plant(trims, plant, path, index)
    return plant


def ends_by_number(trims, plant):
    """For each number of trims the ends to which no fewer trims lead; raises TooMany."""
    grove, nodes = grown_nodes(trims, plant)
    levels = levels_from(grove, nodes[0])
    grove.settle()
    return [[entries_of(grove.forest, node) for node in level if not grove.busy[node]] for level in levels]


def ends(trims, plant):
    """All finished plants to which trims lead, in ascending order; raises TooMany."""
    found = [finished for level in ends_by_number(trims, plant) for finished in level]
    return tuple(sorted(found, key=lambda finished: tagged_key(trims.bed, finished)))


def fewest(trims, plant):
    """The least number of trims that lead to an end, and the least end to which so many lead; raises TooMany."""
    levels = ends_by_number(trims, plant)
    many = min([number for number, level in enumerate(levels) if len(level) > 0])
    return many, min(levels[many], key=lambda finished: tagged_key(trims.bed, finished))
