"""Slow and plain answers about trims, found on nested trees; trims are objects of the program."""

import random

from shearyard.errors import InvalidTrim
from shearyard.trims import Trim, Trims
from tests.reference import flat, nested, spots_of, stumps_to


def fitted(stump, tree):
    """The branches at the holes of a nested stump, or None if it does not begin the nested tree."""
    if stump[0] == "*":
        return [tree]
    if stump[0] != tree[0]:
        return None
    found = []
    for part, branch in zip(stump[1], tree[1]):
        inner = fitted(part, branch)
        if inner is None:
            return None
        found.extend(inner)
    return found


def cut_root(trim, tree):
    """The nested tree after a trim at its root."""
    parts = fitted(nested(trim.bed, trim.stump), tree)

    def build(result):
        return parts[result[0]] if isinstance(result[0], int) else (result[0], [build(branch) for branch in result[1]])

    return build(nested(trim.bed, trim.result))


def tree_spots(trims, tree):
    """All spots of a nested tree."""
    return [
        (path, index) for path, branch in spots_of(tree) for index, trim in enumerate(trims.trims)
        if fitted(nested(trims.bed, trim.stump), branch) is not None
    ]


def cut_spot(trims, tree, path, index):
    """The nested tree after a trim at a spot."""
    if path == ():
        return cut_root(trims.trims[index], tree)
    return (tree[0], [
        cut_spot(trims, branch, path[1:], index) if place == path[0] else branch for place, branch in enumerate(tree[1])
    ])


def whole_way(trims, plant, last):
    """The spots of a way, and the plant at its end."""
    tree, taken = nested(trims.bed, plant), []
    while tree_spots(trims, tree):
        taken.append(tree_spots(trims, tree)[-1 if last else 0])
        tree = cut_spot(trims, tree, *taken[-1])
    return tuple(taken), flat(tree)


def plants_from(trims, plant, most):
    """All plants to which trims lead with the least numbers of trims; more than `most` are not looked for."""
    numbers = {plant: 0}
    queue = [plant]
    for one in queue:
        tree = nested(trims.bed, one)
        for spot in tree_spots(trims, tree):
            other = flat(cut_spot(trims, tree, *spot))
            if other not in numbers:
                numbers[other] = numbers[one] + 1
                queue.append(other)
        if len(numbers) > most:
            break
    return numbers


def entry_key(bed, plant):
    """The key of an open plant in ascending order."""
    return len(plant), [bed.kinds.index(entry) if isinstance(entry, str) else 8 + entry for entry in plant]


def random_trim(bed, dice):
    """A random trim with a small stump."""
    widths = dict(bed.rows)

    def grow(room, holes):
        if holes is None and (room < 1 or dice.random() < 0.3):
            return ("*",)
        if holes and dice.random() < 0.6:
            return (holes.pop(),)
        kind = dice.choice(bed.kinds) if room > 0 else dice.choice(bed.leaves())
        return (kind,) + sum([grow(room - 1, holes) for _ in range(widths[kind])], ())

    while True:
        stump = grow(3, None)
        numbers = list(range(stump.count("*")))
        dice.shuffle(numbers)
        try:
            return Trim(bed, stump, grow(2, numbers))
        except InvalidTrim:
            continue


def random_trims(bed, seed, many):
    """Random trims."""
    dice = random.Random(seed)
    return Trims(bed, *[random_trim(bed, dice) for _ in range(many)])


def random_open_plant(bed, dice, room):
    """A random open plant of at most so many levels more than one."""
    widths = dict(bed.rows)
    if room < 1:
        return (dice.choice([*bed.leaves(), 0, 1, 5]),)
    kind = dice.choice(bed.kinds)
    return (kind,) + sum([random_open_plant(bed, dice, room - 1) for _ in range(widths[kind])], ())


def tagged(stump):
    """The stump with tags for its holes, numbered from left to right."""
    tags = iter(range(len(stump)))
    return tuple([next(tags) if entry == "*" else entry for entry in stump])


def open_plants_to(bed, entries):
    """All open plants of at most that many entries whose tags are all different and ascend from 0 on."""
    return [tagged(stump) for stump in stumps_to(bed, entries)]


def nested_union(first, second):
    """The union of two nested stumps, or None."""
    if first[0] == "*" or second[0] == "*":
        return second if first[0] == "*" else first
    if first[0] != second[0]:
        return None
    below = [nested_union(one, other) for one, other in zip(first[1], second[1])]
    return None if None in below else (first[0], below)


def put_at(tree, path, other):
    """The nested tree with another one in place of the branch at the path."""
    if path == ():
        return other
    return (tree[0], [put_at(branch, path[1:], other) if at == path[0] else branch for at, branch in enumerate(tree[1])])


def plain_peaks(trims):
    """All peaks by their definition."""
    stumps = [nested(trims.bed, trim.stump) for trim in trims.trims]
    found = []
    for i, stump in enumerate(stumps):
        for path, branch in spots_of(stump):
            for j, other in enumerate(stumps):
                union = nested_union(branch, other)
                if branch[0] == "*" or union is None or (path == () and i >= j):
                    continue
                found.append((tagged(flat(put_at(stump, path, union))), i, path, j))
    return tuple(found)


def after(trims, plant, spots):
    """The plant after trims at these spots; each of them has to fit."""
    for path, index in spots:
        tree = nested(trims.bed, plant)
        if (path, index) not in tree_spots(trims, tree):
            raise AssertionError((plant, path, index))
        plant = flat(cut_spot(trims, tree, path, index))
    return plant


def ends_from(trims, plant):
    """All ends of a plant."""
    return [one for one in plants_from(trims, plant, 10 ** 6) if not tree_spots(trims, nested(trims.bed, one))]
