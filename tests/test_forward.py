"""Point 33: forward through a shear that does not copy."""

from shearyard.beds import Bed
from shearyard.canon import canonical
from shearyard.errors import Copies, OtherBed, TooMany
from shearyard.forward import image
from shearyard.gardeners import Shear
from shearyard.lots import complement, everything, only
from shearyard.readers import Reader
from tests.checking import YardTest, named
from tests.gardening import random_shear
from tests.pieces import PlainPieces
from tests.reference import BED, WIDE, canonical_by_trying, chain, folded, plants_to, random_reader, shape, tower

STATES = named(TooMany, what="states", limit=40)
SMALL = Bed(("leaf", 0), ("bud", 0), ("twig", 1))
TWOS = Bed(("leaf", 0), ("fork", 2), ("bud", 0))
CHAINS = Bed(("twig", 1), ("leaf", 0))


def remainders(modulus, *marks):
    """A reader whose state is the number of twigs of a chain by this modulus."""
    rows = [("leaf", (), 0)] + [("twig", (at,), (at + 1) % modulus) for at in range(modulus)]
    return Reader(CHAINS, modulus, tuple(rows), marks)


class Image(YardTest):
    def test_what_comes_out_is_marked(self):
        for bed in (BED, WIDE):
            for seed in range(30):
                reader, _ = random_reader(bed, 1 + seed % 2, seed)
                shear = random_shear(bed, 1 + seed % 2, 70 + seed, copying=False)
                try:
                    found = image(reader, shear)
                except TooMany:
                    continue
                for plant in plants_to(bed, 5):
                    if plant in reader:
                        self.assertIn(shear(plant), found)

    def test_by_trying(self):
        """Shears that drop nothing make no plant smaller unless rows are lone calls, so few plants need a trial."""
        rows = ((0, "fork", ("fork", (0, 1), (1, 0))), (1, "twig", ("twig", "twig", (0, 0))),
                (0, "leaf", ("twig", "bud")), (1, "fork", ("fork", "leaf", "fork", (1, 0), (0, 1))))
        shear = Shear(BED, 2, rows)
        for seed in range(20):
            reader, _ = random_reader(BED, 2, seed, 0.9)
            wanted = {shear(plant): True for plant in plants_to(BED, 6) if plant in reader}
            try:
                found = image(reader, shear)
            except TooMany:
                continue
            self.assertEqual([plant in found for plant in plants_to(BED, 6)],
                             [plant in wanted for plant in plants_to(BED, 6)])

    def test_canonical_results_and_joint_states_by_trying_all_pieces(self):
        sizes, refused = {}, 0
        for bed, knots, seeds, least, most, share in (
            (SMALL, 9, 40, 1, 3, 0.8), (TWOS, 7, 40, 1, 2, 0.8), (BED, 6, 40, 1, 2, 0.8), (TWOS, 7, 25, 1, 3, 0.3),
            (BED, 6, 10, 1, 3, 0.2), (TWOS, 5, 6, 7, 7, 0),
        ):
            for seed in range(seeds):
                reader, step = random_reader(bed, min(most, least + seed % most), seed)
                shear = random_shear(bed, 1 + seed % 2, 800 + seed, 4, False, share)
                pieces = PlainPieces(reader, step, shear)
                if len(pieces.joint_states(40)) > 40:
                    self.refused(STATES, image, reader, shear)
                    refused += 1
                else:
                    self.check_image(pieces, reader, shear, knots, sizes)
        self.assertGreater(sum(sizes.values()), 70)
        self.assertGreater(len(sizes), 3)
        self.assertGreater(refused, 3)

    def check_image(self, pieces, reader, shear, knots, sizes):
        """Compare an image with what the pieces show; count the sizes of the canonical readers that are compared."""
        bed = reader.bed
        found = image(reader, shear)
        wanted = canonical_by_trying(bed, pieces.step, pieces.marked(reader), knots)
        if wanted is not None:
            self.assertEqual(shape(found), wanted)
            sizes[wanted[0]] = sizes.get(wanted[0], 0) + 1
        for plant in plants_to(bed, 3):
            self.assertIs(plant in found, pieces.marked(reader)(folded(bed, pieces.step, plant)))

    def test_keeping(self):
        for modulus in (1, 2, 7):
            reader = remainders(modulus, modulus - 1)
            self.assertEqual(shape(image(reader, Shear.keeping(CHAINS))), shape(canonical(reader)))
        self.assertEqual(shape(image(everything(BED), Shear.mirror(BED))), shape(everything(BED)))
        self.assertEqual(shape(image(complement(everything(BED)), Shear.mirror(BED))),
                         shape(complement(everything(BED))))

    def test_all_twigs_doubled(self):
        found = image(everything(BED), Shear(BED, 1, ((0, "twig", ("twig", "twig", (0, 0))), (0, "fork", ((0, 1),)))))
        self.assertEqual([plant for plant in plants_to(BED, 5) if plant in found],
                         [("leaf",), ("bud",), chain(3), chain(3, "bud"), chain(5), chain(5, "bud")])

    def test_a_dropped_branch_needs_no_more_than_some_plant(self):
        """The first branch of a fork decides the reader's state and is dropped."""
        shear = Shear(BED, 1, ((0, "fork", ((0, 1),)),))
        leaves = (("leaf", (), 1), ("bud", (), 2))
        found = image(Reader(BED, 4, leaves + (("fork", (1, 2), 3),), (3,)), shear)
        self.assertEqual(shape(found), shape(only(BED, ("bud",))))
        # No plant has the state 4, so that no fork has the state 3.
        found = image(Reader(BED, 5, leaves + (("fork", (4, 2), 3),), (3,)), shear)
        self.assertEqual(shape(found), shape(complement(everything(BED))))

    def test_rounds_of_lone_calls(self):
        rows = ((0, "twig", ((1, 0),)), (1, "twig", ((0, 0),)), (0, "leaf", ("bud",)), (1, "leaf", ("leaf",)))
        found = image(remainders_of(3, 2), Shear(SMALL, 2, rows))
        self.assertIn(("bud",), found)
        self.assertIn(("leaf",), found)
        self.assertNotIn(("twig", "leaf"), found)

    def test_40_and_41_joint_states(self):
        """The pieces tell a chain's remainder, and a leaf from all other plants: one joint state more."""
        keep = Shear.keeping(CHAINS)
        self.assertEqual(image(remainders(39, 5), keep).states, 39)
        self.refused(STATES, image, remainders(40, 5), keep)
        self.refused(STATES, image, remainders(40), keep)

    def test_only_reached_states_of_the_reader_count(self):
        rows = [("leaf", (), 0), ("twig", (0,), 0)] + [("twig", (at,), (at + 1) % 40) for at in range(1, 40)]
        found = image(Reader(CHAINS, 40, tuple(rows), (0,)), Shear.keeping(CHAINS))
        self.assertEqual(shape(found), shape(everything(CHAINS)))

    def test_copies(self):
        rows = [(1, "twig", ("fork", (0, 0), (0, 0))), (1, "fork", ("fork", (0, 1), (1, 1))), (2, "twig", ((1, 0),))]
        for kind, kept in (("twig", rows), ("twig", rows[::-1]), ("fork", rows[1:])):
            shear = Shear(BED, 3, tuple(kept), start=2)
            self.refused(named(Copies, state=1, kind=kind), image, everything(BED), shear)
        self.assertEqual(image(everything(BED), Shear(BED, 3, tuple(rows))).states, 1)

    def test_copies_are_ordered_by_state_and_then_by_the_rank_of_the_kind(self):
        double = ("ash", (0, 0), (0, 0))
        rows = [(state, kind, double) for state in (2, 1) for kind in ("ash", "stem", "tri")]
        rows.append((0, "stem", ("ash", (2, 0), "bud")))
        rows.append((0, "tri", ("ash", (1, 2), (2, 0))))
        self.refused(named(Copies, state=1, kind="tri"), image, everything(WIDE), Shear(WIDE, 3, tuple(rows)))

    def test_copies_come_before_too_many(self):
        shear = Shear(BED, 1, ((0, "twig", ("fork", (0, 0), (0, 0))),))
        self.refused(named(Copies, state=0, kind="twig"), image, tower(2001), shear)

    def test_another_bed(self):
        turned = Bed(("bud", 0), ("leaf", 0), ("twig", 1), ("fork", 2))
        twice = ((0, "twig", ("fork", (0, 0), (0, 0))),)
        for bed in (turned, WIDE):
            self.refused(named(OtherBed), image, tower(2001), Shear.mirror(bed))
            self.refused(named(OtherBed), image, everything(bed), Shear(BED, 1, twice))
        self.assertEqual(image(everything(Bed(*BED.rows)), Shear.mirror(BED)).states, 1)

    def test_the_arguments_do_not_change(self):
        reader, shear = random_reader(BED, 2, 1)[0], Shear.mirror(BED)
        shown = (shape(reader), shear.table())
        image(reader, shear)
        self.assertEqual((shape(reader), shear.table()), shown)


def remainders_of(modulus, mark):
    """A reader of SMALL that marks the plants with this remainder of twigs."""
    rows = [("twig", (at,), (at + 1) % modulus) for at in range(modulus)]
    return Reader(SMALL, modulus, tuple(rows), (mark,))
