"""What trims have to do with readers and with shears."""

from shearyard.beds import check_beds
from shearyard.classes import canonical_reader
from shearyard.errors import TooMany
from shearyard.finishing import Finisher
from shearyard.forest import nodes_at
from shearyard.gauges import Gauge
from shearyard.groves import Grove
from shearyard.limits import MOST_HOLES, MOST_KNOTS
from shearyard.machines import Machine, joint_machine
from shearyard.patterns import Patterns
from shearyard.peaking import check_alike
from shearyard.rows import all_rows
from shearyard.stumps import HOLE
from shearyard.tagged import with_tags
from shearyard.working import worked


def finished_reader(trims):
    """The canonical reader of the finished plants of the bed; raises TooMany."""
    patterns = Patterns(trims.bed, [trim.stump for trim in trims.trims])

    def step(kind, below):
        mask = patterns.mask_for(kind, tuple([other for other, _ in below]))
        busy = any([above for _, above in below]) or any([mask & root > 0 for root in patterns.roots])
        return mask, busy

    machine = Machine(trims.bed, step)
    return canonical_reader(machine, [number for number, (_, busy) in enumerate(machine.joints) if not busy])


def changing(trims, reader):
    """The first pair (index, states at the holes) with which a trim changes the state of the reader, or None."""
    check_beds([trims.bed, reader.bed])
    for trim in trims.trims:
        if trim.stump.count(HOLE) > MOST_HOLES:
            raise TooMany("holes", MOST_HOLES)
    states = sorted([state for (state,) in joint_machine([reader]).joints])
    for index, trim in enumerate(trims.trims):
        below = changed_states(reader, states, trim)
        if below is not None:
            return index, below
    return None


def changed_states(reader, states, trim):
    """The first of these states at the holes with which the trim changes the state of the reader, or None."""
    many = trim.stump.count(HOLE)
    before = Gauge(reader, with_tags(trim.stump), many)
    behind = Gauge(reader, trim.result, many)
    for below in all_rows(states, many):
        if before.state_with(below) != behind.state_with(below):
            return below
    return None


def disturbed(shear, trims):
    """The first pair (state, index) with which the shear does not respect a trim, or None; raises NotAlike, TooMany."""
    check_beds([shear.bed, trims.bed])
    check_alike(trims)
    grove = Grove(trims)
    finisher = Finisher(grove)
    for state in shear.reached():
        for index, trim in enumerate(trims.trims):
            trees = [tagged_outcome(shear, state, tree) for tree in (with_tags(trim.stump), trim.result)]
            first, second = [nodes_at(grove.forest, trims.bed, tree)[0] for tree in trees]
            if finisher.finished_node(first) != finisher.finished_node(second):
                return state, index
    return None


def tagged_outcome(shear, state, tree):
    """What comes out when a tree whose holes are numbered is worked in the state: an open plant; raises TooMany."""
    out = worked(shear, tree, state, MOST_KNOTS)
    if out is None:
        raise TooMany("knots", MOST_KNOTS)
    # What comes of a hole is a pair of a state and the hole's number.
    return [entry[1] * shear.states + entry[0] if isinstance(entry, tuple) else entry for entry in out]
