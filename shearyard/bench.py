"""Benches: one plant that is worked on step by step, with deeds that can be taken back and done again."""

from shearyard.beds import check_beds
from shearyard.errors import (
    Changed, InvalidBudget, InvalidName, NothingToRedo, NothingToUndo, NoTrims, Stopped, TooMany, UnknownDeed,
    UnknownName, YardError,
)
from shearyard.limits import MOST_UNDONE, MOST_WATCHED
from shearyard.names import is_name
from shearyard.plants import check_plant, replaced
from shearyard.trimming import cut_at, end

STEPS = ("shear", "lead", "cut", "finish", "graft", "back", "undo", "redo")
WORD_WIDTH = 9
KNOTS_WIDTH = 6


def check_mark(name):
    """Raise InvalidName if no plant can be marked with this name."""
    if not is_name(name):
        raise InvalidName(name)


class Bench:
    """One plant, the deeds done to it and those taken back, watched readers and marked plants.

    A deed is kept as its word and the plants before and behind it.
    """

    def __init__(self, bed, plant, *, trims=None, budget=MOST_UNDONE):
        check_beds([bed] if trims is None else [bed, trims.bed])
        check_plant(bed, plant)
        self.bed = bed
        self.plant = plant
        self.trims = trims
        self.done = []
        self.taken_back = []
        self.watched = []
        self.marked = {}
        self.budget = budget

    @property
    def budget(self):
        """The greatest number of deeds that can be undone."""
        return self.room

    @budget.setter
    def budget(self, value):
        if not 1 <= value <= MOST_UNDONE:
            raise InvalidBudget(value)
        self.room = value
        self.forget()

    def forget(self):
        """Forget the oldest deeds if there are more than the budget allows."""
        self.done = self.done[max(0, len(self.done) - self.room):]

    def check_watched(self, plant):
        """Raise Changed if the plant has another state than the present one in a watched reader."""
        for place, reader in enumerate(self.watched):
            if reader.state_of(plant) != reader.state_of(self.plant):
                raise Changed(place)

    def do(self, word, plant):
        """Do a deed that leads to this plant; raises Changed."""
        self.check_watched(plant)
        self.done.append((word, self.plant, plant))
        self.forget()
        self.taken_back = []
        self.plant = plant
        return plant

    def check_trims(self):
        """Raise NoTrims if there are no trims."""
        if self.trims is None:
            raise NoTrims()

    def shear(self, gardener):
        """Let a gardener work on the plant."""
        check_beds([self.bed, gardener.bed])
        return self.do("shear", gardener.work(self.plant))

    def lead(self, garden):
        """Lead the plant into a garden."""
        check_beds([self.bed, garden.bed])
        return self.do("lead", garden(self.plant))

    def cut(self, path, index):
        """Trim the plant once, at the path; raises NoTrims, NoPath and NoSpot."""
        self.check_trims()
        return self.do("cut", cut_at(self.trims, self.plant, path, index))

    def finish(self):
        """Trim the plant until it is finished; raises NoTrims."""
        self.check_trims()
        return self.do("finish", end(self.trims, self.plant))

    def graft(self, path, plant):
        """Put a plant in the place of the branch at the path; raises NoPath."""
        return self.do("graft", replaced(self.bed, self.plant, path, plant))

    def back(self, name):
        """Make the marked plant the present one; raises UnknownName."""
        check_mark(name)
        if name not in self.marked:
            raise UnknownName(name)
        return self.do("back", self.marked[name])

    def undo(self):
        """Take back the last deed; raises NothingToUndo."""
        if len(self.done) == 0:
            raise NothingToUndo()
        self.check_watched(self.done[-1][1])
        deed = self.done.pop()
        self.taken_back.append(deed)
        self.plant = deed[1]
        return self.plant

    def redo(self):
        """Do the deed taken back last again; raises NothingToRedo."""
        if len(self.taken_back) == 0:
            raise NothingToRedo()
        self.check_watched(self.taken_back[-1][2])
        deed = self.taken_back.pop()
        self.done.append(deed)
        self.forget()
        self.plant = deed[2]
        return self.plant

    def change(self, budget):
        """Assign the budget."""
        self.budget = budget

    def watch(self, reader):
        """Watch a reader, whose state no deed may change from now on; the number of watched readers."""
        check_beds([self.bed, reader.bed])
        if len(self.watched) == MOST_WATCHED:
            raise TooMany("readers", MOST_WATCHED)
        self.watched.append(reader)
        return len(self.watched)

    def mark(self, name):
        """Keep the present plant under a name."""
        check_mark(name)
        self.marked[name] = self.plant

    def names(self):
        """A new list of the marked names in the order in which they were first marked."""
        return list(self.marked)

    def try_all(self, *steps):
        """Do several steps, all or none; raises UnknownDeed and Stopped."""
        for place, step in enumerate(steps):
            if step[0] not in STEPS:
                raise UnknownDeed(place)
        plant, done, taken_back = self.plant, list(self.done), list(self.taken_back)
        for place, step in enumerate(steps):
            try:
                self.take_step(step)
            except YardError as error:
                self.plant, self.done, self.taken_back = plant, done, taken_back
                raise Stopped(place) from error
        return self.plant

    def take_step(self, step):
        """Do one step of several."""
        word = step[0]
        if word == "shear":
            self.shear(step[1])
        elif word == "lead":
            self.lead(step[1])
        elif word == "cut":
            self.cut(step[1], step[2])
        elif word == "finish":
            self.finish()
        elif word == "graft":
            self.graft(step[1], step[2])
        elif word == "back":
            self.back(step[1])
        elif word == "undo":
            self.undo()
        else:
            self.redo()

    def log(self):
        """A new list of the deeds that can be undone: their words and the numbers of knots behind them."""
        return [(word, len(plant)) for word, _, plant in self.done]

    def report(self):
        """A text with a line for each deed that can be undone."""
        rows = [("deed", "knots"), *[(word, str(knots)) for word, knots in self.log()]]
        return "\n".join([word.ljust(WORD_WIDTH) + knots.rjust(KNOTS_WIDTH) for word, knots in rows])

    def twin(self):
        """A bench in the same state, which goes its own way."""
        other = Bench(self.bed, self.plant, trims=self.trims, budget=self.budget)
        other.done = list(self.done)
        other.taken_back = list(self.taken_back)
        other.watched = list(self.watched)
        other.marked = {name: plant for name, plant in self.marked.items()}
        return other
