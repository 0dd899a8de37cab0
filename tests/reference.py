"""Slow and plain answers for the tests, found by recursion and by trying all small plants.

Nothing here uses the program, except that beds and readers are objects of it.
"""

import random
from itertools import product

from shearyard.beds import Bed
from shearyard.readers import Reader

BED = Bed(("leaf", 0), ("bud", 0), ("twig", 1), ("fork", 2))
# The ranks are not in the order of the alphabet, and the first kind is no leaf kind.
WIDE = Bed(("tri", 3), ("stem", 1), ("knob", 0), ("ash", 2), ("bud", 0))
TWINS = Bed(("leaf", 0), ("leap", 0), ("reap", 1), ("leas", 2))

_SMALL = {}


def splits(total, many):
    """All tuples of that many positive numbers with this sum."""
    if many == 0:
        return [()] if total == 0 else []
    return [(first, *rest) for first in range(1, total + 1) for rest in splits(total - first, many - 1)]


def plants_with(bed, knots):
    """All plants with exactly that many knots in ascending order."""
    key = (bed.rows, knots)
    if key not in _SMALL:
        found = []
        for kind, many in bed.rows:
            for sizes in splits(knots - 1, many):
                for below in product(*[plants_with(bed, size) for size in sizes]):
                    found.append((kind,) + sum(below, ()))
        ranks = {kind: rank for rank, (kind, _) in enumerate(bed.rows)}
        _SMALL[key] = sorted(found, key=lambda plant: [ranks[kind] for kind in plant])
    return _SMALL[key]


def plants_to(bed, knots):
    """All plants with at most that many knots in ascending order."""
    return [plant for many in range(1, knots + 1) for plant in plants_with(bed, many)]


def stumps_to(bed, entries):
    """All stumps with at most that many entries in ascending order."""
    holed = Bed(*bed.rows, ("hole", 0)) if "hole" not in bed.kinds else None
    return [tuple("*" if kind == "hole" else kind for kind in plant) for plant in plants_to(holed, entries)]


def nested(bed, tree):
    """The tree as a pair of its root's entry and the list of its nested branches."""
    widths = dict(bed.rows)

    def read(place):
        below = []
        end = place + 1
        for _ in range(widths.get(tree[place], 0)):
            branch, end = read(end)
            below.append(branch)
        return (tree[place], below), end

    return read(0)[0]


def flat(tree):
    """The entries of a nested tree in preorder."""
    return (tree[0],) + sum([flat(branch) for branch in tree[1]], ())


def spots_of(tree):
    """The pairs of path and nested branch in preorder."""
    found = [((), tree)]
    for index, branch in enumerate(tree[1]):
        found.extend([((index,) + path, other) for path, other in spots_of(branch)])
    return found


def spelled(tree):
    """The written form of a nested tree."""
    return tree[0] + (f"({','.join([spelled(branch) for branch in tree[1]])})" if tree[1] else "")


def folded(bed, step, plant):
    """The state of a plant by a step (kind, states below)."""
    def fold(tree):
        return step(tree[0], tuple([fold(branch) for branch in tree[1]]))
    return fold(nested(bed, plant))


def step_of(rows, otherwise):
    """The step of a reader with these rows."""
    table = {(kind, below): state for kind, below, state in rows}
    return lambda kind, below: table.get((kind, below), otherwise)


def joint_step(*steps):
    """The step to the tuples of states."""
    return lambda kind, below: tuple([
        step(kind, tuple([joint[place] for joint in below])) for place, step in enumerate(steps)
    ])


def random_parts(bed, states, seed, share=0.7):
    """Rows, marks and `otherwise` of a random reader; rows stand in any order and some are left out."""
    dice = random.Random(seed)
    rows = []
    for kind, many in bed.rows:
        for below in product(range(states), repeat=many):
            if dice.random() < share:
                rows.append((kind, below, dice.randrange(states)))
    dice.shuffle(rows)
    marks = tuple([state for state in range(states) if dice.random() < 0.4])
    return tuple(rows), marks, dice.randrange(states)


def random_reader(bed, states, seed, share=0.7):
    """A random reader and its step."""
    rows, marks, otherwise = random_parts(bed, states, seed, share)
    return Reader(bed, states, rows, marks, otherwise=otherwise), step_of(rows, otherwise)


def least_by_trying(bed, step, knots):
    """For each state that a plant of at most that many knots has, the least such plant; in ascending order."""
    found = {}
    for plant in plants_to(bed, knots):
        found.setdefault(folded(bed, step, plant), plant)
    return found


def is_closed_under(bed, step, states):
    """Whether knots with these states below have one of these states, too."""
    known = set(states)
    return all(
        step(kind, below) in known for kind, many in bed.rows for below in product(list(states), repeat=many)
    )


def told_apart(bed, step, marked, states):
    """The pairs of states that some plant around them tells apart, found pair by pair."""
    apart = {(one, two) for one in states for two in states if marked(one) != marked(two)}
    while True:
        more = set()
        for kind, many in bed.rows:
            for below in product(states, repeat=many):
                for place in range(many):
                    for other in states:
                        changed = below[:place] + (other,) + below[place + 1:]
                        if (below[place], other) not in apart:
                            if (step(kind, below), step(kind, changed)) in apart:
                                more.add((below[place], other))
        if not more:
            return apart
        apart |= more


def canonical_by_trying(bed, step, marked, knots):
    """The states, marks and table of the canonical reader; None if plants of that many knots do not show all states."""
    least = least_by_trying(bed, step, knots)
    states = list(least)
    if not is_closed_under(bed, step, states):
        return None
    apart = told_apart(bed, step, marked, states)
    firsts = [one for at, one in enumerate(states) if all((one, two) in apart for two in states[:at])]
    number = {
        state: at for state in states for at, first in enumerate(firsts) if (state, first) not in apart
    }
    rows = []
    for kind, many in bed.rows:
        for below in product(range(len(firsts)), repeat=many):
            rows.append((kind, below, number[step(kind, tuple([firsts[at] for at in below]))]))
    marks = tuple([at for at, first in enumerate(firsts) if marked(first)])
    return len(firsts), marks, tuple(rows)


def shape(reader):
    """What is promised to be equal for readers that mark the same plants."""
    return reader.states, reader.marks, reader.table()


def chain(length, tip="leaf"):
    """A chain of that many knots in BED."""
    return ("twig",) * (length - 1) + (tip,)


def right_comb(forks):
    """Forks whose first branch is a leaf and whose second one goes on, in BED: two entries more for each fork."""
    return ("fork", "leaf") * forks + ("leaf",)


def left_comb(forks):
    """Forks whose first branch goes on and whose second one is a leaf, in BED."""
    return ("fork",) * forks + ("leaf",) * (forks + 1)


def tower(knots):
    """A reader of BED that marks exactly one plant, which has 1,999, 2,000 or 2,001 knots.

    State n up to 9 has the full binary plant with 2 ** (n + 1) - 1 knots; a fork over it and another plant adds
    2 ** (n + 1) knots to that plant, and a twig adds one. State 39 has all other plants.
    """
    rows = [("leaf", (), 0)] + [("fork", (state, state), state + 1) for state in range(9)]
    last = 9
    for state in (8, 7, 6, 5, 3):
        rows.append(("fork", (state, last), last + 1))
        last = last + 1
    if knots > 1999:
        rows.append(("twig", (last,), last + 1) if knots == 2000 else ("fork", (0, last), last + 1))
        last = last + 1
    return Reader(BED, 40, tuple(rows), (last,), otherwise=39)
