"""Earliness: what surely comes out of a state of a shear, and the one form of all shears that do the same."""

from shearyard.errors import TooMany
from shearyard.forms import earliest_form
from shearyard.gardeners import Shear
from shearyard.limits import MOST_ENTRIES, MOST_STATES
from shearyard.sureness import sure_stumps
from shearyard.working import reached_from


def sure(shear, state):
    """The common stump of all that comes out when a plant of the bed is worked in this state; raises NoState."""
    shear.check_state(state)
    return sure_stumps(shear, reached_from(shear.results, state))[state]


def earliest(shear):
    """The pair of axiom and rows that all shears with the same outcomes have in common; raises TooMany."""
    return earliest_form(shear)


def regrown(bed, form):
    """The shear with the outcomes of an earliest form; raises TooMany."""
    axiom, rows = form
    # State 0 stands for the axiom, so the states of the form are numbered from 1 on.
    moved = [(state + 1, kind, moved_calls(result)) for state, kind, result in rows]
    states = 1 + len(rows) // len(bed.kinds)
    known = {(state, kind): result for state, kind, result in moved}
    first = [(0, kind, axiom_result(axiom, kind, known)) for kind in bed.kinds]
    if states > MOST_STATES or max([len(result) for _, _, result in first]) > MOST_ENTRIES:
        raise TooMany("shear", MOST_STATES)
    return Shear(bed, states, tuple(first + moved), name="regrown")


def moved_calls(result):
    """The result in which each state has the next number."""
    return tuple([(entry[0] + 1, entry[1]) if isinstance(entry, tuple) else entry for entry in result])


def axiom_result(axiom, kind, known):
    """The axiom in which each call is replaced by its result for the kind."""
    entries = []
    for entry in axiom:
        entries.extend(known[entry + 1, kind] if isinstance(entry, int) else (entry,))
    return tuple(entries)
