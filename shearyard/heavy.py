"""Heaviness: the greatest weight of the plants that a reader marks."""

from shearyard.canon import canonical
from shearyard.errors import InvalidWeighing, NoPlant, TooMany
from shearyard.least import decoded
from shearyard.limits import MOST_KNOTS
from shearyard.offers import Offers
from shearyard.useful import useful_states


def heaviest(reader, weights):
    """The greatest weight of a marked plant and the least such plant, or None; raises TooMany and NoPlant."""
    if len(weights) != len(reader.bed.kinds):
        raise InvalidWeighing()
    reader = canonical(reader)
    if len(reader.marks) == 0:
        raise NoPlant()
    useful = useful_states(reader)
    rows = [(kind, below, state) for kind, below, state in reader.table() if state in useful]
    by_kind = {kind: weight for kind, weight in zip(reader.bed.kinds, weights)}
    best = greatest_weights(rows, by_kind, len(useful))
    if best is None:
        return None
    greatest = max([best[mark] for mark in reader.marks])
    # A plant has the greatest weight of its state if all of its branches have that of theirs.
    tight = [row for row in rows if weight_of(row, by_kind, best) == best[row[2]]]
    return greatest, least_plant(reader, tight, [mark for mark in reader.marks if best[mark] == greatest])


def weight_of(row, by_kind, best):
    """The greatest weight of a knot of this row, or None if the weights of its branches are not known yet."""
    kind, below, _ = row
    weight = by_kind[kind]
    for state in below:
        if state not in best:
            return None
        weight = weight + best[state]
    return weight


def greatest_weights(rows, by_kind, many):
    """The greatest weight for each of the states of these rows, of which there are so many; None if one has none.

    A plant of more levels than there are states repeats a state. If it is heavier than all lower plants, what stands
    between is worth repeating again and again.
    """
    best = {}
    for _ in range(many + 1):
        raised = {}
        for row in rows:
            weight = weight_of(row, by_kind, best)
            state = row[2]
            if weight is not None and (state not in best or weight > best[state]):
                raised[state] = max(weight, raised.get(state, weight))
        if len(raised) == 0:
            return best
        best.update(raised)
    return None


def least_plant(reader, rows, marks):
    """The least plant of one of these states that is built by these rows alone; raises TooMany."""
    offers = Offers()
    above = {}
    for row in rows:
        for state in row[1]:
            above.setdefault(state, {})[row] = True
    found = [row for row in rows if row[1] == ()]
    while True:
        for kind, below, state in found:
            if all([other in offers.taken for other in below]):
                offers.offer(state, reader.bed.ranks[kind], [offers.taken[other] for other in below])
        taken = offers.take()
        if taken is None:
            raise TooMany("knots", MOST_KNOTS)
        if taken in marks:
            return decoded(reader.bed, offers.taken[taken])
        found = list(above.get(taken, {}))
