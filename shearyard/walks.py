"""Walks: trimming at the first or the last spot again and again, and the plants to which all trims lead."""

from shearyard.errors import TooMany
from shearyard.limits import MOST_PLANTS


def walk(grove, node, last):
    """The spots that are taken from a plant on, the first or the last one each time, and the finished plant's node.

    The plant is climbed: `trail` holds the knots below the present branch, as they were, with the branches taken.
    """
    reach = grove.reach()
    spots = []
    trail = []
    while True:
        grove.settle()
        if not grove.busy[node]:
            if len(trail) == 0:
                return spots, node
            node = climbed_down(grove, trail, node, 1)
            continue
        fitting = grove.fitting[node]
        branches = [place for place, branch in enumerate(grove.forest.below[node]) if grove.busy[branch]]
        if len(fitting) == 0 or (last and len(branches) > 0):
            place = branches[-1 if last else 0]
            trail.append((node, place))
            node = grove.forest.below[node][place]
            continue
        index = fitting[-1 if last else 0]
        spots.append((tuple([place for _, place in trail]), index))
        node = grove.trimmed(node, index)
        if not last:
            # A trim may fit anew below the place where the plant has changed, and that is an earlier spot.
            node = climbed_down(grove, trail, node, reach)


def climbed_down(grove, trail, node, levels):
    """The knot so many levels below the present branch, or the root, with the branch as it is now."""
    for _ in range(min(levels, len(trail))):
        knot, place = trail.pop()
        node = grove.changed(knot, place, node)
    return node


class Steps:
    """The plants to which one trim leads from each plant of a grove."""

    def __init__(self, grove):
        self.grove = grove
        self.known = {}

    def steps_from(self, node):
        """The nodes after one trim at any spot; raises TooMany if they alone are more than there may be."""
        unknown = {}
        waiting = [node]
        while waiting:
            place = waiting.pop()
            if place not in self.known and place not in unknown:
                unknown[place] = True
                waiting.extend(self.grove.forest.below[place])
        self.grove.settle()
        for place in sorted(list(unknown)):
            self.known[place] = self.next_ones(place)
        return self.known[node]

    def next_ones(self, node):
        """The nodes after one trim, if those of the branches are known; raises TooMany."""
        found = {}
        for index in self.grove.fitting[node]:
            found[self.grove.trimmed(node, index)] = True
        for place, branch in enumerate(self.grove.forest.below[node]):
            for other in self.known[branch]:
                found[self.grove.changed(node, place, other)] = True
        # Different changes of a branch make different plants, so that the limit holds for branches, too.
        if len(found) >= MOST_PLANTS:
            raise TooMany("plants", MOST_PLANTS)
        return list(found)


def levels_from(grove, node):
    """All nodes to which trims lead, in lists by the least number of trims; raises TooMany."""
    steps = Steps(grove)
    seen = {node: True}
    levels = [[node]]
    while len(levels[-1]) > 0:
        found = []
        for one in levels[-1]:
            for other in steps.steps_from(one):
                if other not in seen:
                    seen[other] = True
                    found.append(other)
            if len(seen) > MOST_PLANTS:
                raise TooMany("plants", MOST_PLANTS)
        levels.append(found)
    return levels
