"""The errors of the program; the arguments of each one are its attributes.

A message shows an argument only if it is sure to be short: an integer of any size may be too long to be written.
"""


class YardError(ValueError):
    """The base class of all errors of the program."""


class InvalidBed(YardError):
    """The pair of a bed at this place is not valid; -1: the bed has no leaf kind."""

    def __init__(self, place):
        super().__init__(f"invalid bed at {place}")
        self.place = place


class InvalidPlant(YardError):
    """A tuple is not a plant of the bed from this place on."""

    def __init__(self, place):
        super().__init__(f"invalid plant at {place}")
        self.place = place


class InvalidStump(YardError):
    """A tuple is not a stump of the bed from this place on."""

    def __init__(self, place):
        super().__init__(f"invalid stump at {place}")
        self.place = place


class InvalidReader(YardError):
    """The row of a reader at this place is not valid; below 0: another argument."""

    def __init__(self, place):
        super().__init__(f"invalid reader at {place}")
        self.place = place


class InvalidShear(YardError):
    """The row of a shear at this place is not valid; below 0: another argument."""

    def __init__(self, place):
        super().__init__(f"invalid shear at {place}")
        self.place = place


class InvalidTrim(YardError):
    """The result of a trim is not valid at this place; below 0: the trim as a whole."""

    def __init__(self, place):
        super().__init__(f"invalid trim at {place}")
        self.place = place


class InvalidPrices(YardError):
    """The swap at this place is not valid; -1: the price of cutting."""

    def __init__(self, place):
        super().__init__(f"invalid prices at {place}")
        self.place = place


class InvalidCard(YardError):
    """The hidden row of a card at this place is not valid."""

    def __init__(self, place):
        super().__init__(f"invalid card at {place}")
        self.place = place


class InvalidText(YardError):
    """A text is not the written form of anything that was asked for."""

    def __init__(self, text):
        super().__init__(f"invalid text: {text!r}")
        self.text = text


class InvalidPicture(YardError):
    """The named part of a picture is not valid."""

    def __init__(self, what):
        super().__init__(f"invalid picture: {what}")
        self.what = what


class InvalidName(YardError):
    """A text is not a name of one to eight lower-case letters."""

    def __init__(self, name):
        super().__init__(f"invalid name: {name!r}")
        self.name = name


class UnknownName(YardError):
    """A name is not known."""

    def __init__(self, name):
        super().__init__(f"unknown name: {name!r}")
        self.name = name


class UnknownKind(YardError):
    """A bed does not have this kind."""

    def __init__(self, kind):
        super().__init__(f"unknown kind: {kind!r}")
        self.kind = kind


class InvalidWeighing(YardError):
    """A weighing does not have the right number of entries."""


class NotAlike(YardError):
    """The trims do not end alike."""


class NeverSeen(YardError):
    """There is no occurrence as asked."""


class NoPlant(YardError):
    """There is no plant as asked."""


class NoTrims(YardError):
    """The bench has no trims."""


class OtherBed(YardError):
    """Two objects that are used together have different beds."""


class NothingToUndo(YardError):
    """There is nothing that could be taken back."""


class NothingToRedo(YardError):
    """There is nothing that could be done again."""


class TooMany(YardError):
    """There is more of something than the limit allows."""

    def __init__(self, what, limit):
        super().__init__(f"too many {what}: the limit is {limit}")
        self.what = what
        self.limit = limit


class WrongBranches(YardError):
    """Another number of branches, states or pieces is wanted than is given."""

    def __init__(self, wanted, given):
        super().__init__(f"{wanted} wanted, {given} given")
        self.wanted = wanted
        self.given = given


class NoPath(YardError):
    """A path leads to no knot."""

    def __init__(self, path):
        super().__init__("the path leads to no knot")
        self.path = path


class NoSpot(YardError):
    """There is no such trim, or it does not fit at the path."""

    def __init__(self, path, index):
        super().__init__("no such trim fits at the path")
        self.path = path
        self.index = index


class NoState(YardError):
    """There is no such state."""

    def __init__(self, state):
        super().__init__("there is no such state")
        self.state = state


class NoChoice(YardError):
    """There is no such choice of options."""

    def __init__(self, choice):
        super().__init__("there is no such choice")
        self.choice = choice


class Copies(YardError):
    """A shear copies in its row for this state and kind."""

    def __init__(self, state, kind):
        super().__init__(f"the shear copies in state {state} at {kind!r}")
        self.state = state
        self.kind = kind


class Refused(YardError):
    """The gate at this place of a garden refused a plant; -1: the plant is not admitted."""

    def __init__(self, place, plant):
        super().__init__(f"a plant was refused at {place}")
        self.place = place
        self.plant = plant


class Tangled(YardError):
    """The named plant cannot come out of the garden by this fact, too."""

    def __init__(self, name):
        super().__init__(f"tangled: {name!r}")
        self.name = name


class HasSource(YardError):
    """The named plant came out of the garden."""

    def __init__(self, name):
        super().__init__(f"{name!r} came out of the garden")
        self.name = name


class Conflict(YardError):
    """No choice is left behind so many facts and this one."""

    def __init__(self, number):
        super().__init__(f"a conflict behind {number} facts")
        self.number = number


class InvalidBudget(YardError):
    """A budget of a bench is not within its limits."""

    def __init__(self, value):
        super().__init__("invalid budget")
        self.value = value


class Changed(YardError):
    """A deed would change the state in the watched reader at this place."""

    def __init__(self, place):
        super().__init__(f"the watched reader {place} changes its state")
        self.place = place


class Stopped(YardError):
    """The step at this place raised an error, so that nothing was done."""

    def __init__(self, place):
        super().__init__(f"stopped at step {place}")
        self.place = place


class UnknownDeed(YardError):
    """The step at this place has no name of a deed."""

    def __init__(self, place):
        super().__init__(f"unknown deed at {place}")
        self.place = place
