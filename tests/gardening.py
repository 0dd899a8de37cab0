"""Slow and plain answers about shears, gardens and trims, found by recursion and by trying all small plants.

Nothing here uses the program, except that gardeners, gardens and trims are objects of it.
"""

import random
from itertools import product

from shearyard.gardeners import Gate, Shear
from tests.reference import nested, random_reader


def random_result(dice, bed, kind, states, size, copying):
    """A random result for this kind; without `copying` each branch is called at most once."""
    widths = dict(bed.rows)
    leaves = [name for name, many in bed.rows if many == 0]
    free = list(range(widths[kind]))
    dice.shuffle(free)

    def grow(room):
        many = widths[kind] if copying else len(free)
        if many > 0 and dice.random() < 0.6:
            branch = dice.randrange(many) if copying else free.pop()
            return ((dice.randrange(states), branch),)
        name = dice.choice(bed.kinds) if room > 1 else dice.choice(leaves)
        return (name,) + sum([grow(room // 2) for _ in range(widths[name])], ())

    return grow(size)


def random_rows(bed, states, seed, size=6, copying=True, share=0.8):
    """Rows of a random shear in any order; some are left out."""
    dice = random.Random(seed)
    rows = []
    for state, kind in product(range(states), bed.kinds):
        if dice.random() < share:
            rows.append((state, kind, random_result(dice, bed, kind, states, size, copying)))
    dice.shuffle(rows)
    return tuple(rows)


def random_shear(bed, states, seed, size=6, copying=True, share=0.8):
    """A random shear."""
    rows = random_rows(bed, states, seed, size, copying, share)
    return Shear(bed, states, rows, start=seed % states)


def full_rows(bed, states, rows):
    """The results by state and kind, those of rows left out as well."""
    found = {
        (state, kind): (kind, *[(state, branch) for branch in range(many)])
        for state in range(states) for kind, many in bed.rows
    }
    found.update({(state, kind): result for state, kind, result in rows})
    return found


def out_of(bed, results, state, plant):
    """What comes out when the plant is worked in the state; `results` is as in `full_rows`."""
    def work(called, tree):
        found = ()
        for entry in results[called, tree[0]]:
            found += work(entry[0], tree[1][entry[1]]) if isinstance(entry, tuple) else (entry,)
        return found
    return work(state, nested(bed, plant))


def shear_results(shear):
    """The results of a shear by state and kind."""
    return {(state, kind): result for state, kind, result in shear.table()}


def outcome_of(garden, plant):
    """What comes out of a garden, or None if the plant is refused."""
    for gardener in garden.gardeners:
        if isinstance(gardener, Gate):
            if plant not in gardener.reader:
                return None
        elif isinstance(gardener, Shear):
            plant = out_of(garden.bed, shear_results(gardener), gardener.start, plant)
    return plant


def random_gardeners(bed, seed, many, copying=True):
    """A random row of gates and shears."""
    dice = random.Random(seed)
    found = []
    for turn in range(many):
        if dice.random() < 0.35:
            found.append(Gate(random_reader(bed, 2, 10 * seed + turn, 0.9)[0]))
        else:
            found.append(random_shear(bed, dice.randrange(1, 3), 10 * seed + turn, 4, copying, 0.5))
    return found


def common_stump(bed, trees):
    """The common stump of several plants."""
    def shared(branches):
        kinds = {branch[0] for branch in branches}
        if len(kinds) > 1:
            return ("*",)
        many = len(branches[0][1])
        return (branches[0][0],) + sum([shared([branch[1][at] for branch in branches]) for at in range(many)], ())
    return shared([nested(bed, tree) for tree in trees])



def changed_shear(shear, seed):
    """The shear with one entry of one row changed, so that it often does the same for all small plants."""
    dice = random.Random(seed)
    rows = list(shear.table())
    widths = dict(shear.bed.rows)
    number = dice.randrange(len(rows))
    state, kind, result = rows[number]
    place = dice.randrange(len(result))
    entry = result[place]
    if isinstance(entry, tuple):
        other = (dice.randrange(shear.states), entry[1])
    else:
        other = dice.choice([name for name in shear.bed.kinds if widths[name] == widths[entry]])
    rows[number] = (state, kind, result[:place] + (other,) + result[place + 1:])
    return Shear(shear.bed, shear.states, tuple(rows), start=shear.start)


def wandering_shear(bed, states, seed):
    """A random shear that keeps the kinds and changes its state; it turns and copies some branches."""
    dice = random.Random(seed)
    rows = []
    for state, (kind, many) in product(range(states), bed.rows):
        calls = [(dice.randrange(states), branch) for branch in range(many)]
        turn = dice.random()
        if turn < 0.3:
            dice.shuffle(calls)
        elif turn > 0.8 and many > 0:
            calls[0] = (calls[0][0], many - 1)
        if dice.random() < 0.6:
            rows.append((state, kind, (kind, *calls)))
    return Shear(bed, states, tuple(rows))


def renumbered(shear):
    """The same shear with its states in the opposite order."""
    last = shear.states - 1
    rows = []
    for state, kind, result in shear.table():
        moved = [(last - entry[0], entry[1]) if isinstance(entry, tuple) else entry for entry in result]
        rows.append((last - state, kind, tuple(moved)))
    return Shear(shear.bed, shear.states, tuple(rows), start=last - shear.start)


def doubled(shear):
    """A shear that does the same with two states for each one; it changes from one half to the other."""
    many = shear.states
    rows = []
    for half in range(2):
        for state, kind, result in shear.table():
            rows.append((state + half * many, kind, tuple([
                (entry[0] + (1 - half) * many, entry[1]) if isinstance(entry, tuple) else entry for entry in result
            ])))
    return Shear(shear.bed, 2 * many, tuple(rows), start=shear.start)
