"""Slow and plain answers about cases: worlds are found by trying all plants of a finite lot for each name."""

import random

from shearyard.alike import same
from shearyard.cards import Card, HiddenGarden, HiddenGate, HiddenShear
from shearyard.comings import unmarked
from shearyard.gardeners import Gate, Shear
from shearyard.pictures import CountPicture, CrownPicture, HeightPicture, StumpPicture, WindowPicture
from tests.gardening import outcome_of, random_result
from tests.reference import plants_to, random_reader

# Plants of at most three levels; every name that did not come out of a garden stands for one of them.
LOW = HeightPicture


def low_plants(bed):
    """All plants of at most three levels, and the picture that only they fit."""
    picture = HeightPicture(bed, 2)
    return [plant for plant in plants_to(bed, 7) if picture.fits(plant)], picture


class Worlds:
    """The facts of a case, told to the plain twin of a case."""

    def __init__(self, garden, plants):
        self.garden = garden
        self.plants = plants
        self.filled = {choice: garden.filled(choice) for choice in garden.choices()}
        self.facts = []
        self.kept = {}

    def names(self):
        """The known names."""
        return {name: True for fact in self.facts for name in fact[1:] if isinstance(name, str)}

    def sources(self):
        """For each name that came out of the garden the name that went in."""
        return {fact[2]: fact[1] for fact in self.facts if fact[0] == "went"}

    def root(self, name):
        """The name from which a name came."""
        sources = self.sources()
        while name in sources:
            name = sources[name]
        return name

    def outcome(self, choice, plant):
        """What comes of a plant, None if it is refused."""
        if (choice, plant) not in self.kept:
            self.kept[choice, plant] = outcome_of(self.filled[choice], plant)
        return self.kept[choice, plant]

    def settings(self, choice, root):
        """The plants of all names that come of a root, for each plant of the root for which all facts are true."""
        found = []
        for plant in self.plants:
            stands = {root: plant}
            if self.fills(choice, stands):
                found.append(stands)
        return found

    def fills(self, choice, stands):
        """Put in what comes out of the plants of the names; whether all facts about them are true."""
        waiting = list(stands)
        for name in waiting:
            for fact in self.facts:
                if fact[0] == "always" or fact[1] != name:
                    continue
                if fact[0] == "looked" and not fact[2].fits(stands[name]):
                    return False
                if fact[0] == "refused" and self.outcome(choice, stands[name]) is not None:
                    return False
                if fact[0] == "went":
                    stands[fact[2]] = self.outcome(choice, stands[name])
                    if stands[fact[2]] is None:
                        return False
                    waiting.append(fact[2])
        return True

    def choices(self):
        """The choices that are left."""
        roots = [name for name in self.names() if name not in self.sources()]
        readers = [fact[1] for fact in self.facts if fact[0] == "always"]
        return tuple([
            choice for choice, filled in self.filled.items()
            if all(self.settings(choice, root) for root in roots)
            and all(unmarked(filled, reader) is None for reader in readers)
        ])

    def stand_for(self, name):
        """The plants that a name stands for in some world."""
        found = {}
        for choice in self.choices():
            for stands in self.settings(choice, self.root(name)):
                found[stands[name]] = True
        return found

    def groups(self):
        """The choices that are left, grouped by gardens that do the same."""
        groups = []
        for choice in self.choices():
            for group in groups:
                if same(self.filled[group[0]], self.filled[choice]):
                    group.append(choice)
                    break
            else:
                groups.append([choice])
        return tuple([tuple(group) for group in groups])

    def outcomes(self, plant):
        """The different outcomes of a plant."""
        return {self.outcome(choice, plant): True for choice in self.choices()}


def random_garden(bed, seed):
    """A random hidden garden with few choices."""
    dice = random.Random(seed)
    gardeners = []
    while len(gardeners) < 1 + seed % 3:
        turn = dice.random()
        if turn < 0.5:
            gardeners.append(random_hidden_shear(bed, dice))
        elif turn < 0.8:
            gardeners.append(random_hidden_gate(bed, dice))
        elif turn < 0.9:
            gardeners.append(Card(bed, "blank"))
        else:
            gardeners.append(Gate(random_reader(bed, 2, seed, 0.9)[0]) if turn < 0.95 else Shear.mirror(bed))
    return HiddenGarden(bed, *gardeners)


def random_hidden_shear(bed, dice):
    """A random card of a shear."""
    states = dice.randrange(1, 3)
    spots = [(state, kind) for state in range(states) for kind in bed.kinds]
    dice.shuffle(spots)
    many = dice.randrange(1, 3)
    hidden = []
    for state, kind in spots[:many]:
        options = {random_result(dice, bed, kind, states, 3, dice.random() < 0.5): True for _ in range(3)}
        hidden.append((state, kind, tuple(options)))
    rows = [(state, kind, random_result(dice, bed, kind, states, 3, False)) for state, kind in spots[many:many + 2]]
    return HiddenShear(bed, states, tuple(rows), tuple(hidden), start=dice.randrange(states))


def random_hidden_gate(bed, dice):
    """A random card of a gate."""
    spots = [(kind, below) for kind, many in bed.rows for below in pairs(many)]
    dice.shuffle(spots)
    hidden = [(kind, below, dice.choice([(0, 1), (1, 0), (1,)])) for kind, below in spots[:2]]
    rows = [(kind, below, dice.randrange(2)) for kind, below in spots[2:] if dice.random() < 0.7]
    return HiddenGate(bed, 2, tuple(rows), tuple(hidden), (0, 1) if dice.random() < 0.2 else (1,))


def pairs(many):
    """All rows of that many zeros and ones."""
    rows = [()]
    for _ in range(many):
        rows = [row + (state,) for row in rows for state in (0, 1)]
    return rows


def random_picture(bed, dice):
    """A random picture."""
    kind = dice.choice(bed.kinds)
    plants = plants_to(bed, 3)
    return dice.choice([
        CountPicture(bed, kind, 2, dice.randrange(2)), CountPicture(bed, kind, 3, dice.randrange(3)),
        HeightPicture(bed, dice.randrange(1, 5)), HeightPicture(bed, dice.randrange(1, 4), slack=0),
        CrownPicture(bed, dice.choice(plants)), WindowPicture(bed, (kind,) + ("*",) * dict(bed.rows)[kind]),
        StumpPicture(bed, (kind,) + ("*",) * dict(bed.rows)[kind]),
    ])
