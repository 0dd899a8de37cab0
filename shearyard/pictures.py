"""Pictures: what is told about one plant that is not fully known."""

from shearyard.classes import canonical_reader
from shearyard.errors import InvalidPicture
from shearyard.lots import everything, only
from shearyard.machines import Machine
from shearyard.patterns import Patterns
from shearyard.plants import check_plant
from shearyard.stumps import begins, check_stump, places_of
from shearyard.texts import written
from shearyard.trees import levels_in

# Instead of what can be seen above it, a place that has been found has this joint state.
FOUND = -1
LEAST_MODULUS = 2
MOST_MODULUS = 9
MOST_HEIGHT = 30
MOST_SLACK = 3


def check_within(what, number, least, most):
    """Raise InvalidPicture if the number is not within these bounds."""
    if not least <= number <= most:
        raise InvalidPicture(what)


def finding_reader(bed, stump):
    """The canonical reader of the plants in which the stump begins a branch or the whole; raises TooMany."""
    patterns = Patterns(bed, [stump])

    def step(kind, below):
        if FOUND in below:
            return FOUND
        mask = patterns.mask_for(kind, below)
        return FOUND if mask & patterns.roots[0] > 0 else mask

    return marked_reader(Machine(bed, step), [FOUND])


def marked_reader(machine, marks):
    """The canonical reader of the plants with these joint states of the machine; raises TooMany."""
    return canonical_reader(machine, [number for number, joint in enumerate(machine.joints) if joint in marks])


class Picture:
    """The base class; it fits every plant."""

    def __init__(self, bed):
        self.bed = bed

    def fits(self, plant):
        """Whether the picture fits the plant."""
        check_plant(self.bed, plant)
        return True

    def as_reader(self):
        """The canonical reader of all plants that fit."""
        return everything(self.bed)

    def caption(self):
        """What the picture shows, as a text."""
        return "any"


class WholePicture(Picture):
    """The whole plant."""

    def __init__(self, bed, plant):
        check_plant(bed, plant)
        super().__init__(bed)
        self.shown = plant

    def fits(self, plant):
        """Whether this is the plant of the picture."""
        check_plant(self.bed, plant)
        return plant == self.shown

    def as_reader(self):
        """The canonical reader of all plants that fit; raises TooMany."""
        return only(self.bed, self.shown)

    def caption(self):
        """What the picture shows, as a text."""
        return f"whole {written(self.bed, self.shown)}"


class StumpPicture(Picture):
    """A stump that begins the plant."""

    def __init__(self, bed, stump):
        check_stump(bed, stump)
        super().__init__(bed)
        self.shown = stump

    def fits(self, plant):
        """Whether the stump begins the plant."""
        check_plant(self.bed, plant)
        return begins(self.bed, self.shown, plant)

    def as_reader(self):
        """The canonical reader of all plants that fit; raises TooMany."""
        patterns = Patterns(self.bed, [self.shown])
        machine = Machine(self.bed, lambda kind, below: patterns.mask_for(kind, below))
        return marked_reader(machine, [mask for mask in machine.joints if mask & patterns.roots[0] > 0])

    def caption(self):
        """What the picture shows, as a text."""
        return f"stump {written(self.bed, self.shown)}"


class CrownPicture(Picture):
    """A branch of the plant, or the whole, up to its leaves."""

    def __init__(self, bed, plant):
        check_plant(bed, plant)
        super().__init__(bed)
        self.shown = plant

    def fits(self, plant):
        """Whether a branch, or the whole, is the plant of the picture."""
        check_plant(self.bed, plant)
        return len(places_of(self.bed, self.shown, plant)) > 0

    def as_reader(self):
        """The canonical reader of all plants that fit; raises TooMany."""
        return finding_reader(self.bed, self.shown)

    def caption(self):
        """What the picture shows, as a text."""
        return f"crown {written(self.bed, self.shown)}"


class WindowPicture(Picture):
    """A stump that begins a branch of the plant, or the whole."""

    def __init__(self, bed, stump):
        check_stump(bed, stump)
        super().__init__(bed)
        self.shown = stump

    def fits(self, plant):
        """Whether the stump begins a branch, or the whole."""
        check_plant(self.bed, plant)
        return len(places_of(self.bed, self.shown, plant)) > 0

    def as_reader(self):
        """The canonical reader of all plants that fit; raises TooMany."""
        return finding_reader(self.bed, self.shown)

    def caption(self):
        """What the picture shows, as a text."""
        return f"window {written(self.bed, self.shown)}"


class CountPicture(Picture):
    """The remainder of the number of knots of one kind."""

    def __init__(self, bed, kind, modulus, rest):
        bed.branches(kind)
        check_within("modulus", modulus, LEAST_MODULUS, MOST_MODULUS)
        check_within("rest", rest, 0, modulus - 1)
        super().__init__(bed)
        self.kind = kind
        self.modulus = modulus
        self.rest = rest

    def fits(self, plant):
        """Whether the number of knots of the kind has the remainder."""
        check_plant(self.bed, plant)
        return plant.count(self.kind) % self.modulus == self.rest

    def as_reader(self):
        """The canonical reader of all plants that fit."""
        def step(kind, below):
            return (sum(below) + (1 if kind == self.kind else 0)) % self.modulus

        return marked_reader(Machine(self.bed, step), [self.rest])

    def caption(self):
        """What the picture shows, as a text."""
        return f"count {self.kind} {self.rest} of {self.modulus}"


class HeightPicture(Picture):
    """The height of the plant, told too low or too high by at most the slack."""

    def __init__(self, bed, height, *, slack=1):
        check_within("height", height, 1, MOST_HEIGHT)
        check_within("slack", slack, 0, MOST_SLACK)
        super().__init__(bed)
        self.told = height
        self.slack = slack

    def fits(self, plant):
        """Whether the height differs by at most the slack."""
        check_plant(self.bed, plant)
        return abs(levels_in(self.bed, plant) - self.told) <= self.slack

    def as_reader(self):
        """The canonical reader of all plants that fit."""
        tall = self.told + self.slack + 1
        # Plants that are too tall count as one height.
        machine = Machine(self.bed, lambda kind, below: min(tall, 1 + max(below, default=0)))
        return marked_reader(machine, list(range(max(1, self.told - self.slack), tall)))

    def caption(self):
        """What the picture shows, as a text."""
        return f"height {self.told}" + (f" or {self.slack} off" if self.slack != 0 else "")
