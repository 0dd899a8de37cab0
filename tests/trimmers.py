"""Slow and plain answers about trims, found on nested trees; trims are objects of the program."""

import random

from shearyard.errors import InvalidTrim
from shearyard.trims import Trim, Trims
from tests.reference import flat, nested, spots_of


def fitted(stump, tree):
    """The branches at the holes of a nested stump, or None if it does not begin the nested tree."""
    if stump[0] == "*":
        return [tree]
    if stump[0] != tree[0]:
        return None
    found = []
    for part, branch in zip(stump[1], tree[1]):
        inner = fitted(part, branch)
        if inner is None:
            return None
        found.extend(inner)
    return found


def cut_root(trim, tree):
    """The nested tree after a trim at its root."""
    parts = fitted(nested(trim.bed, trim.stump), tree)

    def build(result):
        return parts[result[0]] if isinstance(result[0], int) else (result[0], [build(branch) for branch in result[1]])

    return build(nested(trim.bed, trim.result))


def tree_spots(trims, tree):
    """All spots of a nested tree."""
    return [
        (path, index) for path, branch in spots_of(tree) for index, trim in enumerate(trims.trims)
        if fitted(nested(trims.bed, trim.stump), branch) is not None
    ]


def cut_spot(trims, tree, path, index):
    """The nested tree after a trim at a spot."""
    if path == ():
        return cut_root(trims.trims[index], tree)
    return (tree[0], [
        cut_spot(trims, branch, path[1:], index) if place == path[0] else branch for place, branch in enumerate(tree[1])
    ])


def whole_way(trims, plant, last):
    """The spots of a way, and the plant at its end."""
    tree, taken = nested(trims.bed, plant), []
    while tree_spots(trims, tree):
        taken.append(tree_spots(trims, tree)[-1 if last else 0])
        tree = cut_spot(trims, tree, *taken[-1])
    return tuple(taken), flat(tree)


def plants_from(trims, plant, most):
    """All plants to which trims lead with the least numbers of trims; more than `most` are not looked for."""
    numbers = {plant: 0}
    queue = [plant]
    for one in queue:
        tree = nested(trims.bed, one)
        for spot in tree_spots(trims, tree):
            other = flat(cut_spot(trims, tree, *spot))
            if other not in numbers:
                numbers[other] = numbers[one] + 1
                queue.append(other)
        if len(numbers) > most:
            break
    return numbers


def entry_key(bed, plant):
    """The key of an open plant in ascending order."""
    return len(plant), [bed.kinds.index(entry) if isinstance(entry, str) else 8 + entry for entry in plant]


def random_trim(bed, dice):
    """A random trim with a small stump."""
    widths = dict(bed.rows)

    def grow(room, holes):
        if holes is None and (room < 1 or dice.random() < 0.3):
            return ("*",)
        if holes and dice.random() < 0.6:
            return (holes.pop(),)
        kind = dice.choice(bed.kinds) if room > 0 else dice.choice(bed.leaves())
        return (kind,) + sum([grow(room - 1, holes) for _ in range(widths[kind])], ())

    while True:
        stump = grow(3, None)
        numbers = list(range(stump.count("*")))
        dice.shuffle(numbers)
        try:
            return Trim(bed, stump, grow(2, numbers))
        except InvalidTrim:
            continue


def random_trims(bed, seed, many):
    """Random trims."""
    dice = random.Random(seed)
    return Trims(bed, *[random_trim(bed, dice) for _ in range(many)])


def random_open_plant(bed, dice, room):
    """A random open plant of at most so many levels more than one."""
    widths = dict(bed.rows)
    if room < 1:
        return (dice.choice([*bed.leaves(), 0, 1, 5]),)
    kind = dice.choice(bed.kinds)
    return (kind,) + sum([random_open_plant(bed, dice, room - 1) for _ in range(widths[kind])], ())
