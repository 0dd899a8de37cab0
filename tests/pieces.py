"""The pieces that plants match, found slowly and plainly as point 33 describes them."""

from itertools import product

from tests.gardening import shear_results


def reached_by(bed, step):
    """The states that plants have by a step."""
    found = set()
    while True:
        more = {step(kind, below) for kind, many in bed.rows for below in product(sorted(found), repeat=many)}
        if more <= found:
            return found
        found |= more


class PlainPieces:
    """All pieces of a reader and a shear; the step of the reader is passed as well."""

    def __init__(self, reader, step, shear):
        self.bed = reader.bed
        self.step_of_reader = step
        self.shear = shear
        self.results = shear_results(shear)
        self.states = sorted(reached_by(self.bed, step))
        self.widths = dict(self.bed.rows)
        self.pieces = []
        for state in shear.reached():
            for kind, many in self.bed.rows:
                for below in product(self.states, repeat=many):
                    for place in range(len(self.results[state, kind])):
                        self.pieces.append((state, kind, below, place))
        self.kinds = {piece: [] for piece in self.pieces}
        for piece in self.pieces:
            self.kinds[piece] = self.result(piece)[piece[3]]

    def result(self, piece):
        """The result of a piece."""
        return self.results[piece[0], piece[1]]

    def places_above(self, piece):
        """The places of the entries directly above the entry of a piece."""
        result, places, place = self.result(piece), [], piece[3] + 1
        for _ in range(self.widths[result[piece[3]]]):
            places.append(place)
            missing = 1
            while missing > 0:
                missing += self.widths.get(result[place], 0) - 1
                place += 1
        return places

    def step(self, kind, below):
        """The set of the pieces that a knot matches whose branches match these sets of pieces."""
        found = set()
        for piece in self.pieces:
            if self.kinds[piece] == kind:
                branches = [piece[:3] + (place,) for place in self.places_above(piece)]
                if all(branch in matched for branch, matched in zip(branches, below)):
                    found.add(piece)
        while True:
            known = self.outcomes(found)
            more = {piece for piece in self.pieces if piece not in found and self.follows(piece, known)}
            if not more:
                return frozenset(found)
            found |= more

    def follows(self, piece, known):
        """Whether a piece is a lone call for which a plant with these outcomes comes out."""
        call = self.kinds[piece]
        return isinstance(call, tuple) and (call[0], piece[2][call[1]]) in known

    def outcomes(self, found):
        """The pairs of a shear's state and a reader's state for which a plant with these pieces comes out."""
        return {
            (state, self.step_of_reader(kind, below)) for state, kind, below, place in found if place == 0
        }

    def marked(self, reader):
        """The test whether a set of pieces belongs to plants that come out of marked plants."""
        return lambda found: any((self.shear.start, mark) in self.outcomes(found) for mark in reader.marks)

    def joint_states(self, most):
        """The sets of pieces that plants match, as soon as they are more than `most` not all of them."""
        found = {self.step(kind, ()): True for kind, many in self.bed.rows if many == 0}
        while True:
            more = {
                self.step(kind, below): True for kind, many in self.bed.rows
                for below in product(list(found), repeat=many)
            }
            if all(joint in found for joint in more) or len(found) > most:
                return list(found)
            found.update(more)
