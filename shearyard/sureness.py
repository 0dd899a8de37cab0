"""What surely comes out of the states of a shear, whatever plant is worked in them (point 43)."""

from shearyard.stumps import shared_stump
from shearyard.working import calls_of, filled_calls


def sure_stumps(shear, states):
    """For each of these states the common stump of all that comes out; all states that they call are among them."""
    bed = shear.bed
    rows = {state: [shear.results[state][kind] for kind in bed.kinds] for state in states}
    leaves = {state: [shear.results[state][kind] for kind in bed.leaves()] for state in states}
    called = {state: [other for result in rows[state] for other, _ in calls_of(result)] for state in states}
    # The stumps begin with what comes out for lone leaves and shrink until they begin what comes out for every knot.
    sure = {state: narrowed(bed, results[0], results, {}) for state, results in leaves.items()}
    waiting = list(states)
    while waiting:
        state = waiting.pop()
        stump = narrowed(bed, sure[state], rows[state], sure)
        if stump != sure[state]:
            sure[state] = stump
            waiting.extend([other for other in states if state in called[other] and other not in waiting])
    return sure


def narrowed(bed, stump, results, sure):
    """The common stump of the stump and of the results in which the sure stumps of the called states stand."""
    for result in results:
        stands = {call: sure[call[0]] for call in calls_of(result)}
        stump = shared_stump(bed, stump, tuple(filled_calls(result, stands)))
    return stump
