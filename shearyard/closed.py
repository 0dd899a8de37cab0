"""Closed tables: certificates that every plant of one reader is a plant of another one."""

from shearyard.beds import check_beds
from shearyard.bits import numbers_in
from shearyard.machines import joint_machine
from shearyard.readers import are_states
from shearyard.rows import all_rows


def closed_pairs(first, second):
    """The pairs of states that plants have, in ascending order; raises TooMany."""
    check_beds([first.bed, second.bed])
    return tuple(sorted(joint_machine([first, second]).joints))


def is_closed(first, second, pairs):
    """Whether the pairs are a closed table for these two readers."""
    check_beds([first.bed, second.bed])
    for left, right in pairs:
        if not are_states(first.states, (left,)) or not are_states(second.states, (right,)):
            return False
        if left in first.marks and right not in second.marks:
            return False
    masks = masks_beside(first, pairs)
    return all([stays_within(first, second, kind, masks) for kind in first.bed.kinds])


def masks_beside(first, pairs):
    """For each state of the first reader the mask of the second one's states that stand beside it in the table."""
    masks = [0] * first.states
    for left, right in pairs:
        masks[left] = masks[left] | (1 << right)
    return masks


def stays_within(first, second, kind, masks):
    """Whether pairs of the table below a knot of this kind always lead to a pair of the table."""
    many = first.bed.widths[kind]
    states = [state for state, mask in enumerate(masks) if mask > 0]
    results = result_masks(second, kind, sorted(set([masks[state] for state in states])))
    for below in all_rows(states, many):
        allowed = masks[first.cells[kind].get(below, first.otherwise)]
        found = results[(), tuple([masks[state] for state in below])]
        if found & allowed != found:
            return False
    return True


def result_masks(reader, kind, masks):
    """The masks of the states of knots of this kind, by () and the masks of the states that may stand below.

    The table begins with single states below, and one state after the other, from the right, is joined to masks: so
    each pair of tables is not looked at for each pair of entries.
    """
    many = reader.bed.widths[kind]
    states = list(range(reader.states))
    members = {mask: numbers_in(mask) for mask in masks}
    results = {}
    for below in all_rows(states, many):
        results[below, ()] = 1 << reader.cells[kind].get(below, reader.otherwise)
    for place in range(many - 1, -1, -1):
        joined = {}
        for before in all_rows(states, place):
            for behind in all_rows(masks, many - 1 - place):
                for mask in masks:
                    found = 0
                    for state in members[mask]:
                        found = found | results[before + (state,), behind]
                    joined[before, (mask,) + behind] = found
        results = joined
    return results
