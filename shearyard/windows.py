"""Windows: what stands around the occurrences of a stump in all plants that a reader marks."""

from shearyard.insides import Insides
from shearyard.sights import Sight
from shearyard.stumps import check_stump, filled_holes
from shearyard.trees import check_size
from shearyard.witnesses import least_witness


def sight_of(reader, stump):
    """All occurrences of the stump; raises TooMany, InvalidStump and NeverSeen."""
    check_stump(reader.bed, stump)
    return Sight(reader, stump)


def kinds_above(reader, stump):
    """The pairs of a kind and a branch that can be directly above an occurrence, behind None if it can be the root."""
    sight = sight_of(reader, stump)
    found = sight.pairs_above(sight.found)
    pairs = [(kind, branch) for kind, many in reader.bed.rows for branch in range(many) if (kind, branch) in found]
    return (None, *pairs) if sight.found & sight.marks > 0 else tuple(pairs)


def kinds_below(reader, stump):
    """For each hole the kinds that can stand there."""
    sight = sight_of(reader, stump)
    insides = Insides(sight.reader)
    found = [insides.kinds_in(mask) for mask in sight.hole_masks()]
    return tuple([tuple([kind for kind in reader.bed.kinds if kind in kinds]) for kinds in found])


def sure_above(reader, stump):
    """The longest tuple of pairs of a kind and a branch that all occurrences have above them, towards the root."""
    sight = sight_of(reader, stump)
    mask = sight.found
    sure = []
    while mask & sight.marks == 0:
        pairs = list(sight.pairs_above(mask).items())
        if len(pairs) > 1:
            break
        pair, mask = pairs[0]
        sure.append(pair)
    return tuple(sure)


def sure_below(reader, stump):
    """For each hole the common stump of all that can stand there."""
    sight = sight_of(reader, stump)
    insides = Insides(sight.reader)
    return tuple([insides.shared_by(mask) for mask in sight.hole_masks()])


def grown(reader, stump):
    """The largest stump that occurs wherever the stump does; raises TooMany."""
    entries = filled_holes(stump, sure_below(reader, stump))
    check_size(entries)
    return tuple(entries)


def witness(reader, stump, *, under=None):
    """The least marked plant in which the stump occurs as asked, and the first path of such an occurrence."""
    return least_witness(sight_of(reader, stump), under)
