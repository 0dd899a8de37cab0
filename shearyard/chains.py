"""Chains: one shear that does what two shears do one after the other."""

from shearyard.beds import check_beds
from shearyard.errors import TooMany
from shearyard.gardeners import Shear
from shearyard.limits import MOST_ENTRIES, MOST_STATES
from shearyard.working import renamed, worked


def chained(first, second):
    """The shear that does what the first shear followed by the second one does; raises TooMany."""
    check_beds([first.bed, second.bed])
    pairs = [(first.start, second.start)]
    numbers = {pairs[0]: 0}
    rows = []
    last = 0
    while last < len(pairs):
        for kind in first.bed.kinds:
            result = chained_result(first, second, pairs[last], kind)
            for pair in [entry[0] for entry in result if isinstance(entry, tuple)]:
                if pair not in numbers:
                    numbers[pair] = len(pairs)
                    pairs.append(pair)
            if len(pairs) > MOST_STATES:
                raise TooMany("shear", MOST_STATES)
            rows.append((last, kind, renamed(result, numbers)))
        last += 1
    return Shear(first.bed, len(pairs), tuple(rows), name=first.name)


def chained_result(first, second, pair, kind):
    """The result for a pair of states and a kind; its calls are pairs of a pair of states and a branch."""
    out = worked(second, first.results[pair[0]][kind], pair[1], MOST_ENTRIES)
    if out is None:
        raise TooMany("shear", MOST_STATES)
    # A call (state, branch) of the first shear comes out with the second one's state before it.
    return [((entry[1][0], entry[0]), entry[1][1]) if isinstance(entry, tuple) else entry for entry in out]
