"""Points 53 to 56: peaks, whether trims end alike, meetings, and plants that are trimmed to a common plant."""

import random
import time

from shearyard.beds import Bed
from shearyard.errors import InvalidPlant, NotAlike, TooMany
from shearyard.peaking import ends_alike, is_meeting_paper, joined, meetings, peaks, two_ways
from shearyard.trims import Trim, Trims
from tests.checking import YardTest, named
from tests.reference import BED, WIDE, chain, nested
from tests.trimmers import (
    after, ends_from, open_plants_to, plain_peaks, random_open_plant, random_trims, tree_spots,
)

FORKS = Bed(("leaf", 0), ("fork", 2))
SMALL = Bed(("leaf", 0), ("twig", 1), ("fork", 2))
NONE = Trims(BED)
SHORT = Trims(BED, Trim(BED, ("twig", "twig", "*"), ("twig", 0)))
SELF = Trims(BED, Trim(BED, ("twig", "twig", "*"), ("bud",)))
EITHER = Trims(BED, Trim(BED, ("fork", "bud", "*"), (0,)), Trim(BED, ("fork", "*", "bud"), (0,)))
# The first two trims fit at one root; what they leave differs, but one more trim makes it equal.
LATER = Trims(
    BED, Trim(BED, ("twig", "twig", "twig", "*"), ("twig", "bud")), Trim(BED, ("twig",) * 3 + ("*",), ("twig", "leaf")),
    Trim(BED, ("twig", "leaf"), ("leaf",)), Trim(BED, ("twig", "bud"), ("leaf",)),
)
KNOTS = named(TooMany, what="knots", limit=2000)


def cases():
    """Random trims, those that end alike among them."""
    for bed, many in ((FORKS, 300), (SMALL, 250), (BED, 150), (WIDE, 60)):
        for seed in range(many):
            yield random_trims(bed, 1000 + seed, seed % 4)


def is_finished(trims, plant):
    return not tree_spots(trims, nested(trims.bed, plant))


class Peaks(YardTest):
    def test_by_definition(self):
        seen = 0
        for trims in cases():
            self.assertEqual(peaks(trims), plain_peaks(trims))
            seen += len(peaks(trims))
        self.assertGreater(seen, 1000)

    def test_a_trim_meets_itself_below_its_root_only(self):
        self.assertEqual(peaks(SELF), ((("twig", "twig", "twig", 0), 0, (0,), 0),))
        self.assertEqual(peaks(Trims(BED, Trim(BED, ("fork", "*", "*"), (0,)))), ())

    def test_equal_trims_meet_at_the_root_once(self):
        trim = Trim(BED, ("fork", "*", "*"), (1,))
        self.assertEqual(peaks(Trims(BED, trim, trim)), ((("fork", 0, 1), 0, (), 1),))
        self.assertEqual(len(peaks(Trims(BED, trim, trim, trim))), 3)

    def test_order(self):
        trims = Trims(BED, Trim(BED, ("twig", "fork", "*", "twig", "*"), (0,)), Trim(BED, ("twig", "*"), (0,)))
        self.assertEqual(peaks(trims), (
            (("twig", "fork", 0, "twig", 1), 0, (), 1),
            (("twig", "fork", 0, "twig", "fork", 1, "twig", 2), 0, (0, 1), 0),
            (("twig", "fork", 0, "twig", 1), 0, (0, 1), 1),
        ))

    def test_no_trims(self):
        self.assertEqual((peaks(NONE), ends_alike(NONE), two_ways(NONE), meetings(NONE)), ((), True, None, ()))
        self.assertIs(is_meeting_paper(NONE, ()), True)
        self.assertIs(joined(NONE, ("leaf",), ("leaf",)), True)
        self.assertIs(joined(NONE, ("leaf",), ("bud",)), False)

    def test_large_trims(self):
        start = time.time()
        trim = Trim(BED, ("twig",) * 199 + ("*",), ("twig",) * 198 + (0,))
        trims = Trims(BED, trim, trim)
        self.assertEqual(len(peaks(trims)), 4 * 199 - 3)
        self.assertIs(ends_alike(trims), True)
        self.assertIs(is_meeting_paper(trims, meetings(trims)), True)
        comb = Trim(BED, ("fork", "*") * 99 + ("*",), ("leaf",))
        self.assertEqual(len(peaks(Trims(BED, comb))), 98)
        self.assertIs(ends_alike(Trims(BED, comb)), False)
        self.assertLess(time.time() - start, 10)


class EndsAlike(YardTest):
    def test_known_trims(self):
        for trims, alike in ((SHORT, True), (EITHER, True), (LATER, True), (SELF, False)):
            self.assertIs(ends_alike(trims), alike)

    def test_against_all_small_open_plants(self):
        small = {bed.rows: open_plants_to(bed, 7 if bed is FORKS else 5) for bed in (FORKS, SMALL, BED, WIDE)}
        told = {True: 0, False: 0}
        for trims in cases():
            alike = ends_alike(trims)
            told[alike] += 1
            answer = two_ways(trims)
            self.assertIs(answer is None, alike)
            limit = 0
            if answer is not None:
                plant, first, second = answer
                limit = len(plant)
                found = [after(trims, plant, spots) for spots in (first, second)]
                self.assertNotEqual(*found)
                self.assertTrue(is_finished(trims, found[0]) and is_finished(trims, found[1]))
            for plant in small[trims.bed.rows]:
                if alike or len(plant) < limit:
                    self.assertEqual(len(ends_from(trims, plant)), 1)
        self.assertGreater(min(told.values()), 100)

    def test_the_least_one_of_several_peaks_with_two_ends(self):
        trims = Trims(
            BED, Trim(BED, ("twig", "twig", "twig", "*"), ("bud",)), Trim(BED, ("twig", "fork", "bud", "*"), ("leaf",)),
            Trim(BED, ("fork", "*", "leaf"), (0,)),
        )
        self.assertEqual(two_ways(trims)[0], ("twig", "fork", "bud", "leaf"))

    def test_trims_that_only_keep_a_tag_apart(self):
        # All plants of the bed end as a leaf, but an open plant may keep one of two tags.
        bed = Bed(("leaf", 0), ("twig", 1), ("fork", 2))
        trims = Trims(bed, Trim(bed, ("fork", "*", "*"), (0,)), Trim(bed, ("fork", "*", "*"), (1,)),
                      Trim(bed, ("twig", "*"), (0,)))
        self.assertIs(ends_alike(trims), False)
        self.assertEqual(two_ways(trims)[0], ("fork", 0, 1))


class Meetings(YardTest):
    def test_papers_of_all_trims_that_end_alike(self):
        several = 0
        for trims in cases():
            if not ends_alike(trims):
                self.refused(named(NotAlike), meetings, trims)
                self.assertIs(is_meeting_paper(trims, ()), False)
                continue
            paper = meetings(trims)
            self.assertEqual(len(paper), len(peaks(trims)))
            several += len(paper)
            for (plant, i, path, j), (first, second) in zip(peaks(trims), paper):
                self.assertEqual((first[0], second[0]), (((), i), (path, j)))
                self.assertEqual(after(trims, plant, first), after(trims, plant, second))
            self.assertIs(is_meeting_paper(trims, paper), True)
        self.assertGreater(several, 100)

    def test_trims_that_meet_later(self):
        paper = meetings(LATER)
        self.assertEqual(peaks(LATER)[0], (("twig", "twig", "twig", 0), 0, (), 1))
        self.assertEqual(paper[0], ((((), 0), ((), 3)), (((), 1), ((), 2))))
        self.assertIs(is_meeting_paper(LATER, paper), True)

    def test_changed_papers(self):
        (first, second), *others = paper = meetings(LATER)
        for pair in (
            (second, first), (first, ()), ((), ()), (first[:1], second), (first, second[:-1]), (first, first),
            (first + (((), 2),), second), (first + (((0,), 0),), second + (((0,), 0),)),
            (first + (((), 9),), second + (((), 9),)), (first + (((), -1),), second + (((), -1),)),
            (first[1:], second), (first[:1] + first, second), (first,), (first, second, second), (),
        ):
            self.assertIs(is_meeting_paper(LATER, (pair, *others)), False)
        for other in ((), paper[:1], paper[:-1], paper + paper[:1], paper[::-1], paper[1:] + paper[:1]):
            self.assertIs(is_meeting_paper(LATER, other), False)

    def test_any_common_plant_will_do(self):
        trims = Trims(BED, Trim(BED, ("twig", "twig", "*"), ("twig", 0)), Trim(BED, ("fork", "*", "*"), (1,)))
        [((plant, _, path, _))] = peaks(trims)
        self.assertEqual((plant, path), (("twig", "twig", "twig", 0), (0,)))
        short = ((((), 0),), (((0,), 0),))
        long = ((((), 0), ((), 0)), (((0,), 0), ((), 0)))
        self.assertIs(is_meeting_paper(trims, (short,)), True)
        self.assertIs(is_meeting_paper(trims, (long,)), True)
        self.assertIs(is_meeting_paper(trims, ((short[0], long[1]),)), False)
        # The spots lead to a common plant, but the second tuple does not begin at the peak's path.
        self.assertIs(is_meeting_paper(trims, ((short[0], short[0]),)), False)

    def test_negative_branches_lead_nowhere(self):
        trims = Trims(BED, Trim(BED, ("twig", "twig", "*"), ("twig", 0)))
        self.assertIs(is_meeting_paper(trims, (((((), 0),), (((-1,), 0),)),)), False)
        paper = (((((), 0), ((-1,), 0)), (((0,), 0), ((-1,), 0))),)
        self.assertIs(is_meeting_paper(trims, paper), False)


class Joined(YardTest):
    def test_by_ends(self):
        joins = 0
        for number, trims in enumerate(cases()):
            dice = random.Random(number)
            first, second = [random_open_plant(trims.bed, dice, 3) for _ in range(2)]
            if max(len(first), len(second)) > 16:
                continue
            if not ends_alike(trims):
                self.refused(named(NotAlike), joined, trims, first, second)
                continue
            common = set(plants_after(trims, first)) & set(plants_after(trims, second))
            self.assertIs(joined(trims, first, second), bool(common))
            joins += bool(common)
        self.assertGreater(joins, 20)

    def test_large_plants(self):
        self.assertIs(joined(SHORT, chain(2000), chain(1999)), True)
        self.assertIs(joined(SHORT, chain(2000), chain(2000, "bud")), False)
        self.assertIs(joined(SHORT, ("twig",) * 1999 + (4,), ("twig", 4)), True)
        self.refused(KNOTS, joined, SHORT, chain(2001), ("leaf",))
        self.refused(KNOTS, joined, SHORT, ("leaf",), chain(2001))

    def test_plants_are_checked_first_and_in_order(self):
        for trims in (SHORT, SELF):
            self.refused(named(InvalidPlant, place=1), joined, trims, ("twig",), ("rose",))
            self.refused(named(InvalidPlant, place=0), joined, trims, ("twig", 3), ("rose",))
            self.refused(KNOTS, joined, trims, ("leaf",), chain(2001))
        self.refused(named(NotAlike), joined, SELF, ("leaf",), ("leaf",))


def plants_after(trims, plant):
    """All plants to which trims lead."""
    queue = [plant]
    for one in queue:
        for spot in tree_spots(trims, nested(trims.bed, one)):
            other = after(trims, one, (spot,))
            if other not in queue:
                queue.append(other)
    return queue
