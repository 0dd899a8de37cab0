"""Offers: least plants, found one after another in ascending order."""

from shearyard.limits import MOST_KNOTS


def code_above(rank, pieces):
    """The ranks of the entries of the plant with this rank at its root and these codes of branches."""
    code = (rank,)
    for piece in pieces:
        code = code + piece
    return code


class Offers:
    """The least plant offered so far for each key, unless the key's plant has been taken.

    A plant is given by the ranks of its entries, its code; those of more than 2,000 knots are left out. If what is
    offered behind a plant is never less than that plant, the plants are taken in ascending order.
    """

    def __init__(self):
        self.best = {}
        self.taken = {}

    def offer(self, key, rank, pieces):
        """Offer the plant with this rank at its root and these codes of branches."""
        size = 1 + sum([len(piece) for piece in pieces])
        if size <= MOST_KNOTS and key not in self.taken and (key not in self.best or size <= self.best[key][0]):
            self.offer_code(key, code_above(rank, pieces))

    def offer_code(self, key, code):
        """Offer the plant with this code."""
        sized = (len(code), code)
        if key not in self.taken and (key not in self.best or sized < self.best[key]):
            self.best[key] = sized

    def take(self):
        """The key of the least plant offered, which is its key's plant from now on; None if there is none left."""
        if len(self.best) == 0:
            return None
        key = min(self.best, key=lambda one: self.best[one])
        self.taken[key] = self.best.pop(key)[1]
        return key
