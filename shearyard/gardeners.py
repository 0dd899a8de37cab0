"""Gardeners: gates let a plant pass or refuse it, shears work it from the root to the leaves."""

from shearyard.errors import InvalidShear, NoState, Refused, TooMany, UnknownKind
from shearyard.limits import MOST_ENTRIES, MOST_KNOTS, MOST_STATES
from shearyard.plants import check_plant
from shearyard.trees import fault_place
from shearyard.working import calls_of, reached_from, worked


class Gardener:
    """The base class; it lets every plant pass unchanged."""

    def __init__(self, bed, name):
        self.bed = bed
        self.name = name

    def work(self, plant):
        """The plant itself."""
        check_plant(self.bed, plant)
        return plant


class Gate(Gardener):
    """A gardener that refuses the plants that its reader does not mark."""

    def __init__(self, reader, *, name="gate"):
        super().__init__(reader.bed, name)
        self.reader = reader

    def work(self, plant):
        """The plant itself if it is marked; raises Refused."""
        if plant not in self.reader:
            raise Refused(0, plant)
        return plant


def checked_results(bed, states, rows):
    """For each state its results by kind; raises TooMany or InvalidShear."""
    given = [{} for _ in range(states)]
    for place, (state, kind, result) in enumerate(rows):
        if len(result) > MOST_ENTRIES:
            raise TooMany("entries", MOST_ENTRIES)
        if not 0 <= state < states or kind not in bed.widths or kind in given[state]:
            raise InvalidShear(place)
        if not is_result(bed, states, kind, result):
            raise InvalidShear(place)
        given[state][kind] = result
    return [with_usual_results(bed, state, found) for state, found in enumerate(given)]


def with_usual_results(bed, state, given):
    """The results of a state by kind; without a row the kind stays and its branches are worked in the same state."""
    usual = {kind: (kind, *[(state, branch) for branch in range(many)]) for kind, many in bed.rows}
    return {kind: given.get(kind, usual[kind]) for kind in bed.kinds}


def is_result(bed, states, kind, result):
    """Whether this may be the result of a row for this kind."""
    calls = {call: True for call in calls_of(result)}
    for call in calls:
        if len(call) != 2 or not 0 <= call[0] < states or not 0 <= call[1] < bed.widths[kind]:
            return False
    return fault_place(bed, result, calls) is None


def copied_row(shear):
    """The state and the kind of the first row of a reached state that calls a branch twice, or None."""
    for state in shear.reached():
        for kind in shear.bed.kinds:
            branches = [branch for _, branch in calls_of(shear.results[state][kind])]
            if len(branches) > len(set(branches)):
                return state, kind
    return None


class Shear(Gardener):
    """A gardener with states; a row says what a knot becomes and in which states its branches are worked."""

    def __init__(self, bed, states, rows, *, start=0, name="shear"):
        if states > MOST_STATES:
            raise TooMany("states", MOST_STATES)
        if states < 1:
            raise InvalidShear(-1)
        results = checked_results(bed, states, rows)
        if not 0 <= start < states:
            raise InvalidShear(-2)
        super().__init__(bed, name)
        self.states = states
        self.start = start
        self.results = results

    def __call__(self, plant):
        return self.work(plant)

    @classmethod
    def keeping(cls, bed):
        """The shear that returns every plant unchanged."""
        return cls(bed, 1, (), name="keep")

    @classmethod
    def mirror(cls, bed):
        """The shear that reverses the order of the branches of every knot."""
        rows = [(0, kind, (kind, *[(0, many - 1 - place) for place in range(many)])) for kind, many in bed.rows]
        return cls(bed, 1, tuple(rows), name="mirror")

    @property
    def copies(self):
        """Whether a row of a reached state calls a branch twice or more."""
        return copied_row(self) is not None

    @property
    def drops(self):
        """Whether a row of a reached state leaves a branch without a call."""
        for state in self.reached():
            for kind, many in self.bed.rows:
                if len(set([branch for _, branch in calls_of(self.results[state][kind])])) < many:
                    return True
        return False

    def work(self, plant):
        """What comes out when the plant is worked from the start; raises TooMany."""
        return self.work_from(plant, self.start)

    def work_from(self, plant, state):
        """What comes out when the plant is worked in this state; raises NoState and TooMany."""
        check_plant(self.bed, plant)
        self.check_state(state)
        out = worked(self, plant, state, MOST_KNOTS)
        if out is None:
            raise TooMany("knots", MOST_KNOTS)
        return tuple(out)

    def check_state(self, state):
        """Raise NoState if there is no such state."""
        if not 0 <= state < self.states:
            raise NoState(state)

    def step(self, state, kind):
        """The result for this state and kind."""
        self.check_state(state)
        if kind not in self.bed.widths:
            raise UnknownKind(kind)
        return self.results[state][kind]

    def table(self):
        """All rows (state, kind, result), ordered by the state and then by the rank of the kind."""
        kinds = self.bed.kinds
        return tuple([(state, kind, self.results[state][kind]) for state in range(self.states) for kind in kinds])

    def reached(self):
        """The start and all states that are called in rows of reached states, ascending."""
        return reached_from(self.results, self.start)
