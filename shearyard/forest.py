"""A forest: trees in which equal branches are one node, so that even trees of immense size are quickly compared.

Nothing here calls itself, because a tree may be a chain of 2,000 entries.
"""


class Forest:
    """Nodes by number. The branches of a node have lesser numbers than the node; equal trees have the same number.

    A label is an entry of a tree: a kind, or an integer or a tuple, which is a leaf. `sizes` counts the entries of
    each node's tree, and `closed` says whether all of them are kinds.
    """

    def __init__(self):
        self.numbers = {}
        self.labels = []
        self.below = []
        self.sizes = []
        self.closed = []

    def node_for(self, label, below):
        """The node of the tree with this label at the root and the trees of these nodes as branches."""
        key = (label, below)
        if key not in self.numbers:
            self.numbers[key] = len(self.labels)
            self.labels.append(label)
            self.below.append(below)
            self.sizes.append(1 + sum([self.sizes[branch] for branch in below]))
            self.closed.append(isinstance(label, str) and all([self.closed[branch] for branch in below]))
        return self.numbers[key]


def nodes_at(forest, bed, tree):
    """For each entry of the tree the node of its branch."""
    nodes = []
    waiting = []
    for entry in tree[::-1]:
        below = tuple([waiting.pop() for _ in range(bed.widths.get(entry, 0))])
        node = forest.node_for(entry, below)
        waiting.append(node)
        nodes.append(node)
    return nodes[::-1]


def entries_of(forest, node):
    """The entries of the node's tree in preorder."""
    entries = []
    waiting = [node]
    while waiting:
        place = waiting.pop()
        entries.append(forest.labels[place])
        waiting.extend(forest.below[place][::-1])
    return tuple(entries)


def unclosed_in(forest, node):
    """The nodes in this node's tree, itself included, that are not closed; ascending."""
    found = {}
    waiting = [node]
    while waiting:
        place = waiting.pop()
        if place not in found and not forest.closed[place]:
            found[place] = True
            waiting.extend(forest.below[place])
    return sorted(list(found))


def calls_in(forest, node):
    """For each label in the node's tree that is no kind, the number of leaves with it."""
    counts = {node: 1}
    found = {}
    for place in unclosed_in(forest, node)[::-1]:
        label = forest.labels[place]
        if isinstance(label, str):
            for branch in forest.below[place]:
                counts[branch] = counts.get(branch, 0) + counts[place]
        else:
            found[label] = counts[place]
    return found


def grafted(forest, node, stands):
    """The node's tree in which the node that `stands` gives for a label takes the place of each leaf with it."""
    made = {}
    for place in unclosed_in(forest, node):
        label = forest.labels[place]
        if label in stands:
            made[place] = stands[label]
        else:
            below = tuple([made.get(branch, branch) for branch in forest.below[place]])
            made[place] = forest.node_for(label, below)
    return made.get(node, node)
