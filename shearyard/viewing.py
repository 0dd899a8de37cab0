"""Viewing: what pictures leave open, of a plant and of what comes out of a garden."""

from shearyard.beds import check_beds
from shearyard.canon import marked_numbers
from shearyard.comings import comes_from, unmarked
from shearyard.counting import finite
from shearyard.errors import TooMany
from shearyard.least import decoded
from shearyard.limits import MOST_KNOTS
from shearyard.lots import all_of, everything
from shearyard.machines import joint_machine
from shearyard.seconds import plural_numbers, two_least


def seen(bed, *pictures):
    """The canonical reader of the plants that fit all pictures; raises TooMany."""
    check_beds([bed, *[picture.bed for picture in pictures]])
    if len(pictures) == 0:
        return everything(bed)
    reader = pictures[0].as_reader()
    for picture in pictures[1:]:
        reader = all_of(reader, picture.as_reader())
    return reader


def left(reader):
    """What the reader leaves open: no plant, one plant, or more with the two least ones; raises TooMany."""
    machine = joint_machine([reader])
    marks = marked_numbers(machine, reader)
    if len(marks) == 0:
        return ("none",)
    plural = plural_numbers(machine)
    wanted = 1 if len(marks) == 1 and marks[0] not in plural else 2
    plants = [decoded(reader.bed, code) for code in two_least(machine, marks)]
    if len(plants) < wanted:
        raise TooMany("knots", MOST_KNOTS)
    if wanted == 1:
        return "one", plants[0]
    return "more", plants[0], plants[1], finite(reader)


def views(garden, *pictures):
    """The canonical reader of the admitted plants whose outcome fits all pictures; raises TooMany."""
    return comes_from(garden, seen(garden.bed, *pictures))


def surely_seen(garden, picture):
    """The least admitted plant whose outcome does not fit the picture, or None; raises TooMany."""
    check_beds([garden.bed, picture.bed])
    return unmarked(garden, picture.as_reader())
