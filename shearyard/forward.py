"""Forward through a shear that does not copy: the plants that come out of it."""

from shearyard.beds import check_beds
from shearyard.classes import canonical_reader
from shearyard.errors import Copies
from shearyard.gardeners import copied_row
from shearyard.machines import Machine
from shearyard.matches import Matches


def image(reader, shear):
    """The canonical reader of what comes out of the shear for plants that the reader marks.

    Raises Copies if the shear calls a branch twice, and TooMany.
    """
    check_beds([reader.bed, shear.bed])
    copied = copied_row(shear)
    if copied is not None:
        raise Copies(copied[0], copied[1])
    matches = Matches(reader, shear)
    machine = Machine(reader.bed, lambda kind, below: matches.match_above(kind, below))
    return canonical_reader(machine, [
        number for number, match in enumerate(machine.joints) if matches.is_marked(match)
    ])
