"""Samples: small plants of each state of a reader from whose accounts those of all other plants follow."""

from heapq import heapify, heappop, heappush

from shearyard.least import least_codes
from shearyard.lots import everything
from shearyard.machines import joint_machine
from shearyard.vectors import Basis
from shearyard.working import calls_of


class Counter:
    """Counts, for a plant, its knots by kind and those of what comes out of each reached state of a shear.

    The counts are one vector: 1, the knots of the plant, and the knots that come out, state by state. That of a knot is
    the sum of a vector for its kind and of sums of numbers of its branches' vectors.
    """

    def __init__(self, shear):
        bed = shear.bed
        many = len(bed.kinds)
        reached = shear.reached()
        self.start = 1 + many * (1 + reached.index(shear.start))
        self.heads = {kind: [1, *[1 if other == kind else 0 for other in bed.kinds]] for kind in bed.kinds}
        self.steps = {kind: [[(0, 0)] for _ in range(width)] for kind, width in bed.rows}
        for place, state in enumerate(reached):
            for kind, result in shear.results[state].items():
                self.heads[kind].extend([result.count(other) for other in bed.kinds])
                for called, branch in calls_of(result):
                    self.steps[kind][branch].append((1 + place, 1 + reached.index(called)))
        self.many = many

    def counts_above(self, kind, vectors):
        """The vector of a knot of this kind whose branches have these vectors."""
        counts = list(self.heads[kind])
        for vector, steps in zip(vectors, self.steps[kind]):
            for to, source in steps:
                shift = (source - to) * self.many
                for index in range(1 + to * self.many, 1 + (to + 1) * self.many):
                    counts[index] += vector[index + shift]
        return counts

    def account_in(self, vector):
        """The account of the plant with this vector."""
        return vector[1:1 + self.many] + vector[self.start:self.start + self.many]


class Samples:
    """For each state of a canonical reader independent vectors of plants that have it, and those plants.

    A sample is a pair of a state and an index; `sizes`, `knots` and `vectors` list, by these, the number of knots, the
    kind with the samples on its branches, and the vector. Samples are found in ascending order of their sizes, so that
    the vectors of all plants up to a size follow from those of the samples up to this size. A state that has `most`
    samples needs no further one; if `most` is None, this is not known.
    """

    def __init__(self, reader, counter, most):
        self.reader = reader
        self.counter = counter
        self.most = most
        self.sizes = [[] for _ in range(reader.states)]
        self.knots = [[] for _ in range(reader.states)]
        self.vectors = [[] for _ in range(reader.states)]
        self.spaces = [Basis() for _ in range(reader.states)]
        self.least = self.least_sizes()
        self.rows = self.smallest_rows()
        self.queue = self.first_offers()
        self.offered = len(self.queue)
        while self.queue:
            size, _, state, kind, below = heappop(self.queue)
            self.try_out(size, state, kind, below)

    def least_sizes(self):
        """For each state the number of knots of its least plant."""
        machine = joint_machine([self.reader])
        sizes = {machine.joints[number][0]: len(code) for number, code in least_codes(machine).items()}
        return [sizes[state] for state in range(self.reader.states)]

    def smallest_rows(self):
        """For each state, and each kind, branch and result, the states below with the least plants beside it."""
        rows = [{} for _ in self.least]
        for kind, below, result in self.reader.table():
            total = sum([self.least[state] for state in below])
            for branch, state in enumerate(below):
                key = (kind, branch, result)
                if key not in rows[state] or total < rows[state][key][0]:
                    rows[state][key] = (total, below)
        return rows

    def first_offers(self):
        """The plants of all rows with least plants as their branches."""
        queue = []
        for kind, below, result in self.reader.table():
            size = 1 + sum([self.least[state] for state in below])
            queue.append((size, len(queue), result, kind, tuple([(state, 0) for state in below])))
        heapify(queue)
        return queue

    def try_out(self, size, state, kind, below):
        """Keep a plant if its vector is independent of those of its state; what can be built with it is offered."""
        if len(self.sizes[state]) == self.most:
            return
        vector = self.counter.counts_above(kind, [self.vectors[other][index] for other, index in below])
        if not self.spaces[state].take_in(vector):
            return
        sample = (state, len(self.sizes[state]))
        self.sizes[state].append(size)
        self.knots[state].append((kind, below))
        self.vectors[state].append(vector)
        if sample[1] > 0:
            self.offer_above(sample, size)

    def offer_above(self, sample, size):
        """Offer the plants that have this sample at one branch, and least plants at the others."""
        state = sample[0]
        for (kind, branch, result), (total, row) in self.rows[state].items():
            below = tuple([sample if place == branch else (other, 0) for place, other in enumerate(row)])
            self.offered += 1
            heappush(self.queue, (total - self.least[state] + size + 1, self.offered, result, kind, below))

    def plant_of(self, sample):
        """The plant of a sample."""
        entries = []
        waiting = [sample]
        while waiting:
            state, index = waiting.pop()
            kind, below = self.knots[state][index]
            entries.append(kind)
            waiting.extend(below[::-1])
        return tuple(entries)


def samples_of(reader, shear):
    """The samples for the states of a canonical reader."""
    counter = Counter(shear)
    # The vectors of the plants of one state have no more dimensions than those of all plants.
    every = Samples(everything(reader.bed), counter, None)
    return Samples(reader, counter, len(every.sizes[0]))
