"""Oneness: one gate and one shear that do together what a garden does."""

from shearyard.backward import before
from shearyard.chains import chained
from shearyard.gardeners import Gate, Shear
from shearyard.gardens import Garden
from shearyard.lots import all_of, everything


def admitted(garden):
    """The canonical reader of the admitted plants; raises TooMany."""
    reader = everything(garden.bed)
    for gardener in garden.gardeners[::-1]:
        if isinstance(gardener, Gate):
            reader = all_of(gardener.reader, reader)
        elif isinstance(gardener, Shear):
            reader = before(reader, gardener)
    return reader


def one_shear(garden):
    """The shear that does what the garden's shears do one after another; raises TooMany."""
    shears = [gardener for gardener in garden.gardeners if isinstance(gardener, Shear)]
    if len(shears) == 0:
        return Shear.keeping(garden.bed)
    one = shears[0]
    for shear in shears[1:]:
        one = chained(one, shear)
    return one


def as_one(garden):
    """The garden of a gate and a shear behind it that does the same; raises TooMany."""
    return Garden(garden.bed, Gate(admitted(garden)), one_shear(garden), name=garden.name)
