"""Gardens: rows of gardeners that work one after another."""

from shearyard.beds import check_beds
from shearyard.errors import Refused, TooMany
from shearyard.limits import MOST_GARDENERS
from shearyard.plants import check_plant


class Garden:
    """A row of gardeners; a plant is refused if one of its gates refuses what comes to it."""

    def __init__(self, bed, *gardeners, name="garden"):
        check_beds([bed, *[gardener.bed for gardener in gardeners]])
        if len(gardeners) > MOST_GARDENERS:
            raise TooMany("gardeners", MOST_GARDENERS)
        self.bed = bed
        self.gardeners = gardeners
        self.name = name

    def __call__(self, plant):
        return self.stages(plant)[-1]

    def __len__(self):
        return len(self.gardeners)

    def __add__(self, other):
        check_beds([self.bed, other.bed])
        row = [*self.gardeners, *other.gardeners]
        return Garden(self.bed, *row, name=self.name)

    def stages(self, plant):
        """The plant before the first gardener and the plants behind each one; raises Refused and TooMany."""
        check_plant(self.bed, plant)
        found = [plant]
        for place, gardener in enumerate(self.gardeners):
            try:
                found.append(gardener.work(found[-1]))
            except Refused:
                raise Refused(place, found[-1]) from None
        return tuple(found)

    def admits(self, plant):
        """Whether no gate refuses; raises TooMany."""
        try:
            self.stages(plant)
        except Refused:
            return False
        return True
