"""Witnesses: least marked plants in which a stump occurs."""

from shearyard.errors import NeverSeen, TooMany
from shearyard.least import decoded, least_codes
from shearyard.limits import MOST_KNOTS
from shearyard.machines import joint_machine
from shearyard.offers import Offers
from shearyard.rows import rows_from
from shearyard.stumps import HOLE, places_of
from shearyard.trees import paths_of


def least_witness(sight, under):
    """The least marked plant with an occurrence as asked, and its first path; raises NeverSeen and TooMany."""
    if not is_seen(sight, under):
        raise NeverSeen()
    reader = sight.reader
    machine = joint_machine([reader])
    codes = {machine.joints[number][0]: code for number, code in least_codes(machine).items()}
    begun = begun_codes(reader, codes, sight.stump)
    best = least_code(reader, begun if under == () else seen_codes(reader, codes, begun, under))
    if best is None:
        raise TooMany("knots", MOST_KNOTS)
    plant = decoded(reader.bed, best)
    return plant, first_path(reader.bed, sight.stump, plant, under)


def is_seen(sight, under):
    """Whether there is an occurrence as asked at all."""
    if under is None:
        return True
    if under == ():
        return sight.found & sight.marks > 0
    return under in sight.pairs_above(sight.found)


def least_code(reader, codes):
    """The code of the least plant among those of the marked states, or None."""
    marked = [codes[state] for state in reader.marks if state in codes]
    return min(marked, key=lambda code: (len(code), code), default=None)


def begun_codes(reader, codes, stump):
    """For each state the code of its least plant that begins with the stump; `codes` holds the least plants at all."""
    bed = reader.bed
    waiting = []
    for entry in stump[::-1]:
        if entry == HOLE:
            waiting.append(codes)
            continue
        below = [waiting.pop() for _ in range(bed.widths[entry])]
        offers = Offers()
        for row in rows_from([list(found) for found in below]):
            state = reader.cells[entry].get(row, reader.otherwise)
            offers.offer(state, bed.ranks[entry], [found[one] for found, one in zip(below, row)])
        waiting.append({state: code for state, (_, code) in offers.best.items()})
    return waiting[0]


def seen_codes(reader, codes, begun, under):
    """For each state the code of its least plant in which what `begun` holds stands as asked; by ascending plants."""
    offers = Offers()
    if under is None:
        for state, code in begun.items():
            offers.offer_code(state, code)
    else:
        kind, branch = under
        offer_with(reader, codes, offers, begun, (kind, branch, list(begun)))
    state = offers.take()
    while state is not None:
        for kind, many in reader.bed.rows:
            for branch in range(many):
                offer_with(reader, codes, offers, offers.taken, (kind, branch, [state]))
        state = offers.take()
    return offers.taken


def offer_with(reader, codes, offers, found, spot):
    """Offer the knots of a kind with what has been found for some states at one branch and least plants elsewhere."""
    kind, branch, states = spot
    lists = [list(codes) for _ in range(reader.bed.widths[kind])]
    lists[branch] = states
    for row in rows_from(lists):
        pieces = [found[state] if place == branch else codes[state] for place, state in enumerate(row)]
        offers.offer(reader.cells[kind].get(row, reader.otherwise), reader.bed.ranks[kind], pieces)


def first_path(bed, stump, plant, under):
    """The first path in preorder of an occurrence as asked."""
    paths = paths_of(bed, plant)
    kinds = {path: kind for path, kind in zip(paths, plant)}
    for place in places_of(bed, stump, plant):
        path = paths[place]
        above = () if path == () else (kinds[path[:-1]], path[-1])
        if under is None or under == above:
            return path
    return None
