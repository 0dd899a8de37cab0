"""The written forms of plants and stumps."""

from shearyard.errors import InvalidText
from shearyard.stumps import HOLE, check_stump
from shearyard.trees import check_size, fault_place


def written(bed, stump):
    """The written form of the stump."""
    check_stump(bed, stump)
    return spelled(bed, stump)


def spelled(bed, tree):
    """The written form of a tree of any size, unchecked."""
    pieces = []
    missing = []
    for entry in tree:
        pieces.append(entry)
        many = bed.widths.get(entry, 0)
        if many > 0:
            pieces.append("(")
            missing.append(many)
        else:
            close_branch(pieces, missing)
    return "".join(pieces)


def close_branch(pieces, missing):
    """Write what follows a branch that is complete; `missing` counts the branches still to come of each open knot."""
    while missing:
        missing[-1] -= 1
        if missing[-1] > 0:
            pieces.append(",")
            return
        missing.pop()
        pieces.append(")")


def read_stump(bed, text):
    """The stump with this written form."""
    return read_tree(bed, text, (HOLE,))


def read_plant(bed, text):
    """The plant with this written form."""
    return read_tree(bed, text, ())


def read_tree(bed, text, leaves):
    """The tree with this written form; `leaves` may stand in it beside the kinds."""
    blank = text.replace("(", " ").replace(",", " ").replace(")", " ")
    entries = tuple(blank.split())
    # The entries alone fix the tree, so the text is right if it is that tree's written form.
    if fault_place(bed, entries, leaves) is not None or spelled(bed, entries) != text:
        raise InvalidText(text)
    check_size(entries)
    return entries
