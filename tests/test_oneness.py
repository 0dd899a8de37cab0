"""Point 35: one gate and one shear that do together what a garden does."""

from shearyard.backward import before
from shearyard.beds import Bed
from shearyard.canon import canonical
from shearyard.chains import chained
from shearyard.errors import Refused, TooMany
from shearyard.gardeners import Gardener, Gate, Shear
from shearyard.gardens import Garden
from shearyard.lots import all_of, complement, everything, only
from shearyard.oneness import admitted, as_one, one_shear
from shearyard.readers import Reader
from tests.checking import YardTest, named
from tests.gardening import outcome_of, random_gardeners, random_shear
from tests.reference import BED, WIDE, plants_to, random_reader, shape, tower

KNOTS = named(TooMany, what="knots", limit=2000)
STATES = named(TooMany, what="states", limit=40)
CHAINS = Bed(("twig", 1), ("leaf", 0))
KEEP, MIRROR = Shear.keeping(BED), Shear.mirror(BED)
IDLE = Gardener(BED, "idle")


def remainders(modulus, *marks):
    """A reader whose state is the number of twigs of a chain by this modulus."""
    rows = [("leaf", (), 0)] + [("twig", (at,), (at + 1) % modulus) for at in range(modulus)]
    return Reader(CHAINS, modulus, tuple(rows), marks)


def turning(states):
    """A shear of CHAINS that takes its states in turn."""
    return Shear(CHAINS, states, tuple([(at, "twig", ("twig", ((at + 1) % states, 0))) for at in range(states)]))


class Admitted(YardTest):
    def test_by_trying(self):
        for bed in (BED, WIDE):
            for seed in range(40):
                garden = Garden(bed, *random_gardeners(bed, seed, seed % 5))
                found = admitted(garden)
                self.assertEqual(shape(found), shape(canonical(found)))
                for plant in plants_to(bed, 4):
                    self.assertIs(plant in found, outcome_of(garden, plant) is not None)

    def test_nothing_to_refuse(self):
        for garden in (Garden(BED), Garden(BED, MIRROR, IDLE), Garden(BED, IDLE), Garden(BED, Gate(everything(BED)))):
            self.assertEqual(shape(admitted(garden)), shape(everything(BED)))

    def test_one_gate(self):
        reader, _ = random_reader(BED, 4, 3)
        self.assertEqual(shape(admitted(Garden(BED, Gate(reader)))), shape(canonical(reader)))
        self.assertEqual(shape(admitted(Garden(BED, IDLE, MIRROR, Gate(reader), KEEP))), shape(before(reader, MIRROR)))

    def test_gates_around_a_shear(self):
        first, second = random_reader(BED, 2, 1)[0], random_reader(BED, 2, 2)[0]
        garden = Garden(BED, Gate(first), MIRROR, Gate(second))
        self.assertEqual(shape(admitted(garden)), shape(all_of(first, before(second, MIRROR))))

    def test_nothing_is_admitted(self):
        none = complement(everything(BED))
        self.assertEqual(shape(admitted(Garden(BED, MIRROR, Gate(none)))), shape(none))

    def test_too_many_where_all_of_and_before_raise_it(self):
        self.assertEqual(admitted(Garden(CHAINS, Gate(remainders(8, 1)), Gate(remainders(5, 1)))).states, 40)
        self.refused(STATES, admitted, Garden(CHAINS, Gate(remainders(6, 1)), Gate(remainders(7, 1))))
        halves = Shear(CHAINS, 2, ((0, "twig", ((1, 0),)), (1, "twig", ("twig", (0, 0)))))
        self.assertEqual(admitted(Garden(CHAINS, halves, Gate(remainders(20, 1)))).states, 40)
        self.refused(STATES, admitted, Garden(CHAINS, halves, Gate(remainders(21, 1))))
        self.refused(STATES, as_one, Garden(CHAINS, halves, Gate(remainders(21, 1))))
        self.refused(KNOTS, admitted, Garden(BED, Gate(tower(2001))))
        self.assertEqual(shape(admitted(Garden(BED, Gate(tower(2000))))), shape(canonical(tower(2000))))


class OneShear(YardTest):
    def test_by_trying(self):
        for bed in (BED, WIDE):
            for seed in range(40):
                shears = [random_shear(bed, 1 + seed % 2, 3 * seed + turn, 4) for turn in range(seed % 4)]
                one = one_shear(Garden(bed, *shears))
                self.assertIsInstance(one, Shear)
                for plant in plants_to(bed, 4):
                    self.assertEqual(one(plant), outcome_of(Garden(bed, *shears), plant))

    def test_no_shear(self):
        for garden in (Garden(BED), Garden(BED, IDLE, Gate(everything(BED)))):
            found = one_shear(garden)
            self.assertEqual((found.table(), found.states, found.name), (KEEP.table(), 1, "keep"))

    def test_one_shear_is_that_shear(self):
        shear = Shear(BED, 3, ((2, "twig", ((0, 0),)),), start=2)
        self.assertIs(one_shear(Garden(BED, IDLE, Gate(everything(BED)), shear, IDLE)), shear)

    def test_shears_are_chained_from_the_first_one_on(self):
        shears = [random_shear(BED, 2, seed, 4) for seed in (1, 2, 3)]
        found = one_shear(Garden(BED, shears[0], Gate(everything(BED)), shears[1], IDLE, shears[2]))
        self.assertEqual(found.table(), chained(chained(shears[0], shears[1]), shears[2]).table())
        self.assertEqual(one_shear(Garden(BED, MIRROR, KEEP)).name, "mirror")

    def test_too_many_where_chained_raises_it(self):
        self.assertEqual(one_shear(Garden(CHAINS, turning(8), turning(5), turning(2))).states, 40)
        shear = named(TooMany, what="shear", limit=40)
        self.refused(shear, one_shear, Garden(CHAINS, turning(6), turning(7)))
        self.refused(shear, as_one, Garden(CHAINS, turning(6), turning(7)))


class AsOne(YardTest):
    def test_by_trying(self):
        for seed in range(40):
            garden = Garden(BED, *random_gardeners(BED, seed, seed % 5), name="south")
            one = as_one(garden)
            self.assertEqual((len(one), one.name), (2, "south"))
            self.assertIsInstance(one.gardeners[0], Gate)
            self.assertIsInstance(one.gardeners[1], Shear)
            self.assertEqual(shape(one.gardeners[0].reader), shape(admitted(garden)))
            self.assertEqual(one.gardeners[1].table(), one_shear(garden).table())
            for plant in plants_to(BED, 4):
                wanted = outcome_of(garden, plant)
                if wanted is None:
                    self.refused(named(Refused, place=0, plant=plant), one, plant)
                else:
                    self.assertEqual(one(plant), wanted)

    def test_an_empty_garden(self):
        one = as_one(Garden(BED))
        self.assertEqual((one.gardeners[0].name, one.gardeners[1].name, one.name), ("gate", "keep", "garden"))
        self.assertEqual(one(("bud",)), ("bud",))

    def test_what_is_large_only_in_between(self):
        twice = Shear(BED, 1, ((0, "twig", ("fork", (0, 0), (0, 0))),))
        small = Shear(BED, 1, ((0, "fork", ("leaf",)),))
        garden = Garden(BED, twice, small)
        self.refused(KNOTS, garden, ("twig",) * 12 + ("bud",))
        self.assertEqual(as_one(garden)(("twig",) * 12 + ("bud",)), ("leaf",))

    def test_the_garden_does_not_change(self):
        garden = Garden(BED, MIRROR, Gate(only(BED, ("leaf",))), IDLE)
        shown = (garden.gardeners, MIRROR.table(), shape(garden.gardeners[1].reader))
        as_one(garden)
        self.assertEqual((garden.gardeners, MIRROR.table(), shape(garden.gardeners[1].reader)), shown)
