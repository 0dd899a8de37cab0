"""Beds: the kinds of knots, and how many branches a knot of each kind has."""

from shearyard.errors import InvalidBed, InvalidText, OtherBed, TooMany, UnknownKind
from shearyard.limits import MOST_BRANCHES, MOST_KINDS
from shearyard.names import all_letters, is_name

DIGITS = "0123456789"


def check_pairs(pairs):
    """Raise TooMany or InvalidBed if the pairs are not those of a bed."""
    if len(pairs) > MOST_KINDS:
        raise TooMany("kinds", MOST_KINDS)
    seen = set()
    for place, (name, many) in enumerate(pairs):
        if not is_name(name) or many < 0 or many > MOST_BRANCHES or name in seen:
            raise InvalidBed(place)
        seen.add(name)
    if 0 not in [many for _, many in pairs]:
        raise InvalidBed(-1)


def check_beds(beds):
    """Raise OtherBed if one of the beds is not the same as the first one."""
    for bed in beds:
        if not beds[0].same(bed):
            raise OtherBed()


class Bed:
    """The kinds of knots in their order: pairs of a name and a number of branches."""

    def __init__(self, *kinds):
        check_pairs(kinds)
        self.rows = kinds
        self.kinds = tuple([name for name, _ in kinds])
        self.widths = {name: many for name, many in kinds}
        self.ranks = {name: rank for rank, name in enumerate(self.kinds)}

    @classmethod
    def read(cls, text):
        """The bed with this written form."""
        pairs = []
        for piece in text.split(" "):
            name, _, digit = piece.partition("/")
            if not all_letters(name) or len(digit) != 1 or digit not in DIGITS:
                raise InvalidText(text)
            pairs.append((name, int(digit)))
        return cls(*pairs)

    @property
    def leaf(self):
        """The first leaf kind."""
        return self.leaves()[0]

    def leaves(self):
        """All leaf kinds in order."""
        return tuple([name for name, many in self.rows if many == 0])

    def branches(self, kind):
        """The number of branches of a knot of this kind."""
        if kind not in self.widths:
            raise UnknownKind(kind)
        return self.widths[kind]

    def rank(self, kind):
        """The index of this kind."""
        if kind not in self.ranks:
            raise UnknownKind(kind)
        return self.ranks[kind]

    def same(self, other):
        """Whether both beds have the same pairs in the same order."""
        return self.rows == other.rows

    def written(self):
        """The written form: name/branches for each pair, joined by single spaces."""
        return " ".join([f"{name}/{many}" for name, many in self.rows])
