"""Weighings: which weights by kind always agree, before and behind a garden."""

from shearyard.accounts import account_of
from shearyard.errors import InvalidPlant, InvalidWeighing, NoPlant, TooMany
from shearyard.oneness import admitted, one_shear
from shearyard.plants import check_plant
from shearyard.samples import samples_of
from shearyard.vectors import Basis, crossing_rows, product_sum


def samples_in(garden):
    """Samples of the admitted plants; raises TooMany, and NoPlant if no plant is admitted."""
    samples = samples_of(admitted(garden), one_shear(garden), Basis())
    if len(samples.rows) == 0:
        raise NoPlant()
    return samples


def always(garden):
    """The weighings in the reduced form from which all others that always hold follow; raises TooMany and NoPlant."""
    columns = 2 * len(garden.bed.kinds) + 1
    return tuple([tuple(row) for row in crossing_rows(samples_in(garden).rows, columns)])


def check_weighing(bed, weighing):
    """Raise InvalidWeighing if the weighing does not have as many entries as it should."""
    if len(weighing) != 2 * len(bed.kinds) + 1:
        raise InvalidWeighing()


def holds_always(garden, weighing):
    """Whether the weighing holds for every admitted plant; raises InvalidWeighing, TooMany and NoPlant."""
    check_weighing(garden.bed, weighing)
    return all([product_sum(weighing, row) == 0 for row in samples_in(garden).rows])


def breaking(garden, weighing):
    """An admitted plant for which the weighing does not hold, or None; raises InvalidWeighing, TooMany and NoPlant."""
    check_weighing(garden.bed, weighing)
    samples = samples_in(garden)
    for index, row in enumerate(samples.rows):
        if product_sum(weighing, row) != 0:
            return samples.plant_at(index)
    return None


def span(garden):
    """Admitted plants such that every weighing that holds for all of them always holds; raises TooMany and NoPlant."""
    samples = samples_in(garden)
    return tuple([samples.plant_at(index) for index in range(len(samples.rows))])


def is_span(garden, plants):
    """Whether every weighing that holds for all these plants, which have to be admitted, always holds."""
    if not all([is_plant(garden.bed, plant) for plant in plants]):
        return False
    reader = admitted(garden)
    shear = one_shear(garden)
    basis = Basis()
    for plant in plants:
        if plant not in reader:
            return False
        basis.take_in([*account_of(shear, plant), -1])
    # No account of an admitted plant may be missing behind those of the given plants.
    return len(samples_of(reader, shear, basis).rows) == 0


def is_plant(bed, plant):
    """Whether the tuple is a plant of at most 2,000 knots."""
    try:
        check_plant(bed, plant)
    except (InvalidPlant, TooMany):
        return False
    return True
