"""Grounds: the gardens of the choices of a hidden garden; what has been worked out for one of them is kept."""

from shearyard.backward import before
from shearyard.errors import Refused
from shearyard.growing import plants_upto
from shearyard.limits import MOST_KNOTS
from shearyard.lots import all_of, complement
from shearyard.oneness import admitted, one_shear
from shearyard.partings import parted
from shearyard.working import worked

# Two gardens are tried with so many of the least plants before they are compared for all plants.
TRIED = 40
TRIED_KNOTS = 6


def tried_plants(bed):
    """The least plants of the bed in ascending order."""
    found = []
    for plant in plants_upto(bed, TRIED_KNOTS):
        found.append(plant)
        if len(found) == TRIED:
            break
    return found


class Ground:
    """The garden of one choice."""

    def __init__(self, garden):
        self.garden = garden
        self.kept = {}

    def passing(self):
        """The admitted reader; raises TooMany."""
        if "passing" not in self.kept:
            self.kept["passing"] = admitted(self.garden)
        return self.kept["passing"]

    def stopped(self):
        """The canonical reader of the plants that are not admitted; raises TooMany."""
        if "stopped" not in self.kept:
            self.kept["stopped"] = complement(self.passing())
        return self.kept["stopped"]

    def one(self):
        """The one shear; raises TooMany."""
        if "one" not in self.kept:
            self.kept["one"] = one_shear(self.garden)
        return self.kept["one"]

    def behind(self, reader):
        """The canonical reader of the admitted plants whose outcome the reader marks; raises TooMany."""
        passing = self.passing()
        return all_of(passing, before(reader, self.one()))

    def outcome(self, plant):
        """What comes out when the plant is led into the garden, or None if it is refused; raises TooMany."""
        try:
            return self.garden(plant)
        except Refused:
            return None

    def signs(self, plants):
        """For each of these plants a list of its outcome's entries, [] if it is refused, None if that is too large."""
        if "signs" not in self.kept:
            shear, passing = self.one(), self.passing()
            self.kept["signs"] = [
                worked(shear, plant, shear.start, MOST_KNOTS) if plant in passing else [] for plant in plants
            ]
        return self.kept["signs"]


def parted_grounds(first, second, plants):
    """The least plant that parts the gardens of two grounds, or None; raises TooMany.

    `plants` are the least plants in ascending order, which part most gardens, so that these are quickly told apart.
    """
    for plant, one, other in zip(plants, first.signs(plants), second.signs(plants)):
        if one is None or other is None:
            break
        if one != other:
            return plant
    return parted((first.passing(), first.one()), (second.passing(), second.one()))
