"""Earliest forms of shears, in which everything comes out as soon as it is sure (point 44).

An early state is a pair: a state of the shear and the index of a hole of its sure stump. What comes out of it for a
plant is what comes out of the shear's state at that hole.
"""

from shearyard.errors import TooMany
from shearyard.limits import MOST_ENTRIES, MOST_STATES
from shearyard.stumps import HOLE, filled_holes, parts_in
from shearyard.sureness import sure_stumps
from shearyard.working import calls_of, filled_calls, renamed


def earliest_form(shear):
    """The axiom and the rows of the earliest form; raises TooMany."""
    sure = sure_stumps(shear, shear.reached())
    if sum([stump.count(HOLE) for stump in sure.values()]) > MOST_STATES:
        raise TooMany("states", MOST_STATES)
    starts = early_states(sure, shear.start)
    results = early_results(shear, sure, starts)
    classes = merged(results)
    firsts = first_states(results, classes, starts)
    numbers = {classes[early]: number for number, early in enumerate(firsts)}
    names = {early: numbers[classes[early]] for early in results}
    rows = []
    for number, early in enumerate(firsts):
        rows.extend([(number, kind, renamed(result, names)) for kind, result in zip(shear.bed.kinds, results[early])])
    return tuple(filled_holes(sure[shear.start], [(names[early],) for early in starts])), tuple(rows)


def early_states(sure, state):
    """The early states of a state of the shear."""
    return [(state, index) for index in range(sure[state].count(HOLE))]


def early_results(shear, sure, starts):
    """For each early state that is reached from the starts the list of its results, in the order of the kinds."""
    found = {}
    waiting = list(starts)
    while waiting:
        early = waiting.pop()
        if early not in found:
            found[early] = [early_result(shear, sure, early, kind) for kind in shear.bed.kinds]
            for result in found[early]:
                waiting.extend([called for called, _ in calls_of(result)])
    return found


def early_result(shear, sure, early, kind):
    """The result of an early state for this kind, with calls (early state, branch); raises TooMany."""
    state, index = early
    result = shear.results[state][kind]
    stands = {}
    for called, branch in calls_of(result):
        calls = [((other, branch),) for other in early_states(sure, called)]
        stands[called, branch] = filled_holes(sure[called], calls)
    found = parts_in(shear.bed, sure[state], tuple(filled_calls(result, stands)))[index]
    if len(found) > MOST_ENTRIES:
        raise TooMany("entries", MOST_ENTRIES)
    return found


def merged(results):
    """For each early state its class: states of one class have the same outcome for every plant."""
    classes = {early: 0 for early in results}
    while True:
        signs = {}
        refined = {}
        for early, rows in results.items():
            sign = tuple([renamed(result, classes) for result in rows])
            refined[early] = signs.setdefault((classes[early], sign), len(signs))
        if len(signs) == len(set(list(classes.values()))):
            return refined
        classes = refined


def first_states(results, classes, starts):
    """The first early state of each class, in the order of their first occurrence from the starts on."""
    firsts = {}
    for early in starts:
        firsts.setdefault(classes[early], early)
    last = 0
    while last < len(firsts):
        rows = results[list(firsts.values())[last]]
        for called in [early for result in rows for early, _ in calls_of(result)]:
            firsts.setdefault(classes[called], called)
        last += 1
    return list(firsts.values())
