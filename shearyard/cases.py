"""Cases: facts about one hidden garden and about plants that are not fully known."""

from shearyard.beds import check_beds
from shearyard.errors import Conflict, HasSource, InvalidName, NothingToUndo, Tangled, TooMany, UnknownName
from shearyard.grounds import Ground, parted_grounds, tried_plants
from shearyard.limits import MOST_FACTS, MOST_NAMES
from shearyard.lots import any_of, complement
from shearyard.names import is_name
from shearyard.plants import check_plant, plant_key
from shearyard.stages import Stage
from shearyard.stumps import common

NOTHING = (None, None)


def check_name(name):
    """Raise InvalidName if this is no name."""
    if not is_name(name):
        raise InvalidName(name)


class Case:
    """Facts about a hidden garden, and the choices that they leave."""

    def __init__(self, garden):
        self.garden = garden
        first = Stage(garden.bed, (), ())
        first.choices_left = list(garden.choices())
        # One stage for each number of facts, so that taking back a fact works nothing out.
        self.history = [first]
        self.grounds = {}
        self.tried = tried_plants(garden.bed)

    def __len__(self):
        return len(self.history[-1].choices_left)

    def looked(self, name, picture):
        """Tell that the picture fits the named plant; raises Conflict."""
        check_beds([self.garden.bed, picture.bed])
        self.check_room((name,))
        self.tell(("looked", name, picture.as_reader()), f"looked {name} {picture.caption()}")

    def went(self, name, other):
        """Tell that the first plant was admitted and that the other one came out; raises Tangled and Conflict."""
        self.check_room((name, other))
        stage = self.history[-1]
        # A ring would have to lead back to the plant from which everything else came.
        if other in stage.sources or other == stage.root_of(name):
            raise Tangled(other)
        self.tell(("went", name, other), f"went {name} {other}")

    def refused(self, name):
        """Tell that the garden refused the named plant; raises Conflict."""
        self.check_room((name,))
        self.tell(("refused", name), f"refused {name}")

    def always(self, reader):
        """Tell that the reader marks the outcome of every admitted plant; raises Conflict."""
        check_beds([self.garden.bed, reader.bed])
        self.check_room(())
        self.tell(("always", complement(reader)), "always")

    def check_room(self, names):
        """Raise InvalidName or TooMany if there cannot be a further fact about these names."""
        for name in names:
            check_name(name)
        stage = self.history[-1]
        if len(stage.told) == MOST_FACTS:
            raise TooMany("facts", MOST_FACTS)
        if len(set([*stage.mentioned, *names])) > MOST_NAMES:
            raise TooMany("names", MOST_NAMES)

    def tell(self, fact, text):
        """Add a fact, if it leaves a choice; raises Conflict and TooMany."""
        earlier = self.history[-1]
        stage = Stage(self.garden.bed, earlier.told + (fact,), earlier.texts + (text,))
        left = [choice for choice in earlier.choices_left if self.is_left(stage, fact, choice)]
        if len(left) == 0:
            raise Conflict(len(earlier.told))
        stage.choices_left = left
        self.history.append(stage)

    def is_left(self, stage, fact, choice):
        """Whether a choice that was left before the last fact of the stage is left behind it; raises TooMany."""
        ground = self.ground_of(choice)
        if fact[0] == "always":
            return len(ground.behind(fact[1]).marks) == 0
        # Only what is told about the plants that are tied to this one by facts may have become false.
        return stage.is_open(ground, fact[1], NOTHING)

    def ground_of(self, choice):
        """The ground of the choice; raises NoChoice."""
        if choice not in self.grounds:
            self.grounds[choice] = Ground(self.garden.filled(choice))
        return self.grounds[choice]

    def grounds_left(self):
        """The grounds of the choices that are left."""
        return [self.ground_of(choice) for choice in self.history[-1].choices_left]

    def choices(self):
        """The choices that are left, in ascending order."""
        return tuple(self.history[-1].choices_left)

    def open_options(self):
        """For each hidden row the indexes of the options that occur in choices that are left."""
        left = self.history[-1].choices_left
        return tuple([tuple(sorted(set([choice[at] for choice in left]))) for at in range(len(left[0]))])

    def groups(self):
        """The choices that are left, grouped by gardens that do the same; raises TooMany."""
        groups = []
        for choice in self.history[-1].choices_left:
            place = self.place_of_same(choice, [group[0] for group in groups])
            if place is None:
                groups.append([choice])
            else:
                groups[place].append(choice)
        return tuple([tuple(group) for group in groups])

    def place_of_same(self, choice, firsts):
        """The place of the first one of these choices whose garden does the same as that of a choice, or None."""
        for place, first in enumerate(firsts):
            if parted_grounds(self.ground_of(first), self.ground_of(choice), self.tried) is None:
                return place
        return None

    def settled(self):
        """Whether the gardens of all choices that are left do the same; raises TooMany."""
        first, *others = self.grounds_left()
        for ground in others:
            if parted_grounds(first, ground, self.tried) is not None:
                return False
        return True

    def question(self):
        """The least plant that does not have the same outcome for all choices that are left, or None."""
        first, *others = self.grounds_left()
        plants = [parted_grounds(first, ground, self.tried) for ground in others]
        asked = [plant for plant in plants if plant is not None]
        return min(asked, key=lambda plant: plant_key(self.garden.bed, plant), default=None)

    def possible(self, name, reader):
        """Whether there is a world in which the reader marks the named plant; raises UnknownName and TooMany."""
        check_beds([self.garden.bed, reader.bed])
        self.check_known(name)
        stage = self.history[-1]
        for ground in self.grounds_left():
            if stage.is_open(ground, name, (name, reader)):
                return True
        return False

    def sure(self, name, reader):
        """Whether the reader marks the named plant in every world; raises UnknownName and TooMany."""
        check_beds([self.garden.bed, reader.bed])
        self.check_known(name)
        return not self.possible(name, complement(reader))

    def plants(self, name):
        """The canonical reader of the plants of the name in all worlds; raises UnknownName, HasSource and TooMany."""
        self.check_known(name)
        stage = self.history[-1]
        if name in stage.sources:
            raise HasSource(name)
        if name not in stage.stops and name not in stage.outs:
            return stage.looked_reader(name)
        first, *others = self.grounds_left()
        reader = stage.reader_of(first, name, NOTHING)
        for ground in others:
            reader = any_of(reader, stage.reader_of(ground, name, NOTHING))
        return reader

    def check_known(self, name):
        """Raise InvalidName or UnknownName if the name is not known."""
        check_name(name)
        if name not in self.history[-1].mentioned:
            raise UnknownName(name)

    def outcomes_of(self, plant):
        """The outcomes of the plant for the choices that are left: None if one refuses it, then plants."""
        check_plant(self.garden.bed, plant)
        found = {ground.outcome(plant): True for ground in self.grounds_left()}
        grown = [outcome for outcome in found if outcome is not None]
        ordered = sorted(grown, key=lambda outcome: plant_key(self.garden.bed, outcome))
        return (None, *ordered) if None in found else tuple(ordered)

    def surely(self, plant):
        """What surely comes of the plant: a refusal, a stump that begins all its outcomes, or neither."""
        outcomes = self.outcomes_of(plant)
        if None in outcomes:
            return ("refused",) if len(outcomes) == 1 else ("open",)
        return "stump", common(self.garden.bed, *outcomes)

    def facts(self):
        """A new list with a text for each fact."""
        return list(self.history[-1].texts)

    def undo(self):
        """Take back the last fact and return its text; raises NothingToUndo."""
        if len(self.history) == 1:
            raise NothingToUndo()
        return self.history.pop().texts[-1]

    def copy(self):
        """A case with the same facts, which goes its own way."""
        other = Case(self.garden)
        other.history = list(self.history)
        # What has been worked out about the choices holds for both.
        other.grounds = self.grounds
        return other
