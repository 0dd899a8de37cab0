"""What can come out of a garden, asked by readers."""

from shearyard.backward import before, outcome_machine, reader_before
from shearyard.beds import check_beds
from shearyard.canon import least_in
from shearyard.lots import all_of, complement, only
from shearyard.oneness import admitted, one_shear


def comes_from(garden, reader):
    """The canonical reader of the admitted plants whose outcome the reader marks; raises TooMany."""
    check_beds([garden.bed, reader.bed])
    passing = admitted(garden)
    return all_of(passing, before(reader, one_shear(garden)))


def outcomes(garden, reader):
    """For each state the least admitted plant whose outcome has it, or None; raises TooMany."""
    check_beds([garden.bed, reader.bed])
    passing = admitted(garden)
    shear = one_shear(garden)
    # Only the marks differ from state to state, so one machine serves for all of them.
    machine = outcome_machine(reader, shear)
    sources_by_state = [all_of(passing, reader_before(machine, shear, (state,))) for state in range(reader.states)]
    return tuple([least_in(lot) for lot in sources_by_state])


def unmarked(garden, reader):
    """The least admitted plant whose outcome the reader does not mark, or None; raises TooMany."""
    check_beds([garden.bed, reader.bed])
    return least_in(comes_from(garden, complement(reader)))


def sources(garden, plant):
    """The canonical reader of the admitted plants from which exactly this plant comes out; raises TooMany."""
    return comes_from(garden, only(garden.bed, plant))
