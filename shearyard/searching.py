"""The search for the least plant that parts two gardens, by all their equations (points 40 to 42)."""

from heapq import heappop, heappush

from shearyard.errors import TooMany
from shearyard.expansions import Comparison
from shearyard.limits import MOST_EQUATIONS, MOST_KNOTS


class Search:
    """All equations of two shears on the marked plants of a canonical reader, by number.

    `faults` holds what shows that an equation does not hold for all plants of its state: for its number and a kind
    the least plant of a failing expansion, as the states below, and for its number and None that it fails at its base.
    `users` lists for each equation the expansions to which it belongs: for the number of the expanded equation, the
    kind and the branch, the states below in the least one of these expansions.
    """

    def __init__(self, reader, shears):
        self.comparison = Comparison(reader, shears)
        self.equations = []
        self.numbers = {}
        self.users = []
        self.faults = {}
        starts = [self.comparison.forest.node_for(shear.start, ()) for shear in shears]
        for mark in reader.marks:
            self.number_for_equation((mark, starts[0], starts[1]))
        self.firsts = len(self.equations)
        last = 0
        while last < len(self.equations):
            self.expand(last)
            last += 1

    def number_for_equation(self, equation):
        """The number of the equation, a new one if necessary; raises TooMany."""
        if equation not in self.numbers:
            if len(self.equations) == MOST_EQUATIONS:
                raise TooMany("equations", MOST_EQUATIONS)
            self.numbers[equation] = len(self.equations)
            self.equations.append(equation)
            self.users.append({})
        return self.numbers[equation]

    def expand(self, number):
        """Take up the equations of the expansions of an equation; raises TooMany."""
        equation = self.equations[number]
        if not self.comparison.holds(equation):
            self.faults[number, None] = None
            return
        for kind, below, found in self.comparison.expansions(equation):
            if found is None:
                self.faults.setdefault((number, kind), below)
            else:
                for branch, other in found:
                    self.users[self.number_for_equation(other)].setdefault((number, kind, branch), below)

    def least_fault(self):
        """The ranks of the least plant for which a first equation fails; None if there is none of at most 2,000 knots.

        Plants come out of the queue in ascending order, because a plant for an expanded equation is larger than the
        plant for the equation of the expansion from which it is made.
        """
        bases = self.comparison.bases
        queue = []
        for (number, kind), below in self.faults.items():
            if kind is None:
                offer(queue, bases.codes[self.equations[number][0]], number)
            else:
                offer(queue, bases.code_above(kind, below, None, ()), number)
        done = {}
        while queue:
            _, code, number = heappop(queue)
            if number < self.firsts:
                return code
            if number not in done:
                done[number] = True
                for (user, kind, branch), below in self.users[number].items():
                    if user not in done:
                        offer(queue, bases.code_above(kind, below, branch, code), user)
        return None


def offer(queue, code, number):
    """Put a plant for an equation into the queue, unless the plant is too large to be returned."""
    if len(code) <= MOST_KNOTS:
        heappush(queue, (len(code), code, number))
