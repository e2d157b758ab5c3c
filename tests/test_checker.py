"""What the checker accepts ([30])."""

import inspect
import itertools
import random
import unittest

from support import (CROWDED, FEW, GRID, HALL, LAND, ONES, POOR, RICH, STRANGE, THIRTEEN, TOWN, all_counts, all_fillings,
                     crosses_around, many_areas, many_crosses, many_faces, many_reports, some_box, faces_around)
from support_claims import altered, is_right
from support_polls import HALVES, NINE, OPEN_NINE, many_polls, many_votes, spoilt
from toldcounts.areas import Areas
from toldcounts.certificates import (certify_area, certify_box, certify_cell, certify_count, certify_filling, certify_people,
                                     certify_profile, certify_safe, certify_scores, certify_way)
from toldcounts.checker import accepts
from toldcounts.crosses import Cross, table_cross
from toldcounts.pages import Page
from toldcounts.polls import Poll
from toldcounts.votes import Votes

ONE = ((1, 2), (1, 0))
CELLS = ((0, 0), (0, 1), (1, 0), (1, 1))
SHEET = Cross(Areas((("all", "", (0, 9)), ("a", "all", (0, 9)), ("b", "all", (4, 4)))),
              Areas((("both", "", (9, 9)), ("one", "both", (2, 4)), ("two", "both", (0, 9)))), (((0, 6),) * 2,) * 2)
BLANK = Page(SHEET, ((2, 3), (1, 3)), CELLS)
AREAS = [LAND, POOR, RICH, Areas((("all", "", (3, 5)),))] + many_areas(401, 40, most_lines=5, most=3)
CROSSES = [HALL, CROWDED, SHEET] + crosses_around(402, 12, ((1, 1), (1, 2), (2, 1), (2, 2))) + crosses_around(409, 8, ((2, 2),), 3, 3) + many_crosses(403, 16, most_cells=4)


def pairs():
    """Certified pairs of each sort, for small arguments."""
    found = [certify_count(areas) for areas in AREAS]
    found += [certify_area(areas, name) for areas in AREAS if all_counts(areas) for name in areas.names]
    found += [certify_filling(cross) for cross in CROSSES]
    for cross in CROSSES:
        fillings = all_fillings(cross)
        if fillings:
            cells = [what[1:] for what in cross.tolds if what[0] == "cell"]
            found += [certify_cell(cross, cell) for cell in cells]
            found += [certify_way(cross, fillings[0], fillings[-1]), certify_way(cross, fillings[0], fillings[0])]
            for hidden in (cells, cells[:1], cells[1:]):
                page = Page(cross, fillings[len(fillings) // 2], tuple(hidden))
                found += [certify_safe(page, cell, width) for cell in cells for width in (1, 2)]
    found += [certify_scores(report) for report in [FEW] + many_reports(404, 20)]
    found += [certify_box(faces) for faces in [ONES] + many_faces(405, 12, most=6)]
    found += [certify_people(poll, people) for poll in [HALVES] + many_polls(406, 10) for people in (1, 2, 3, 7, 40)]
    found += [certify_profile(votes) for votes, _ in many_votes(407, 20)]
    return list(dict.fromkeys(pair for pair in found if pair is not None))


PAIRS = pairs()


class Certified(unittest.TestCase):
    def test_all_sorts_are_there(self):
        words = [claim[0] for claim, _ in PAIRS]
        for word in ("count", "no count", "area", "filling", "no filling", "cell", "way", "safe", "scores", "box", "people",
                     "profile"):
            self.assertGreater(words.count(word), 5, word)

    def test_they_are_accepted(self):
        for claim, paper in PAIRS:
            self.assertIs(accepts(claim, paper), True, (claim, paper))
            self.assertIs(accepts(paper=paper, claim=claim), True)
            self.assertTrue(is_right(claim, paper))

    def test_other_papers(self):
        right = 0
        for claim, paper in PAIRS:
            for other in altered(paper):
                told = is_right(claim, other)
                right += told
                self.assertIs(accepts(claim, other), told, (claim, other))
        self.assertGreater(right, 100)

    def test_other_claims(self):
        right = 0
        for claim, paper in PAIRS:
            for other in altered(claim):
                told = is_right(other, paper)
                right += told
                self.assertIs(accepts(other, paper), told, (other, paper))
        self.assertGreater(right, 100)

    def test_papers_of_other_claims(self):
        for claim, paper in PAIRS[::7]:
            for other, other_paper in PAIRS[::5]:
                self.assertIs(accepts(claim, other_paper), is_right(claim, other_paper), (claim, other_paper))
                for mixed in ((other[0],) + claim[1:], claim[:1] + other[1:], other[:2] + claim[2:]):
                    self.assertIs(accepts(mixed, paper), is_right(mixed, paper), (mixed, paper))

    def test_texts_that_are_none(self):
        for claim, paper in PAIRS[::9]:
            if len(claim[1]) < 60:
                for text in spoilt(claim[1]):
                    other = (claim[0], text) + claim[2:]
                    self.assertIs(accepts(other, paper), is_right(other, paper), (other, paper))


class Ranges(unittest.TestCase):
    def test_all_ends_with_right_data(self):
        """Whatever ends are claimed: with data that have them, the bars alone decide."""
        for areas in (LAND, AREAS[5], AREAS[6], AREAS[9]):
            counts = all_counts(areas)
            for at, name in enumerate(areas.names if counts else ()):
                claim, paper = certify_area(areas, name)
                for one, other in itertools.product(counts[::3] + counts[-1:], repeat=2):
                    claimed = claim[:3] + (one[at], other[at])
                    for bars in (paper[2:], ((), ()), (paper[2], ()), ((), paper[3]), paper[:1:-1]):
                        right = is_right(claimed, (one, other) + bars)
                        self.assertIs(accepts(claimed, (one, other) + bars), right)
                        self.assertTrue(not right or claimed == claim)

    def test_a_range_that_ends_where_the_stretch_does(self):
        claim, paper = certify_area(TOWN, "all")
        self.assertEqual((claim[3:], paper[2:]), ((0, 99), ((), ())))
        self.assertFalse(accepts(claim, paper[:2] + (("more", "all", ("east",)), ())))
        self.assertFalse(accepts(claim, paper[:2] + ([], ())))
        claim, paper = certify_area(LAND, "north")
        self.assertEqual(claim[3:], (6, 8))
        self.assertTrue(accepts(claim, paper))
        for bars in (((), paper[3]), (paper[2], ()), ((), ()), (None, paper[3]), (paper[3], paper[2])):
            self.assertFalse(accepts(claim, paper[:2] + bars))
        claim, paper = certify_cell(HALL, (1, 0))
        self.assertEqual((claim[3:], paper[2:]), ((1, 1), ((), ())))
        claim, paper = certify_cell(HALL, (0, 1))
        self.assertEqual((claim[3:], paper[2]), ((0, 3), ()))
        self.assertFalse(accepts(claim, paper[:3] + ((),)))

    def test_bars_of_the_areas_themselves(self):
        """A bar of areas that have no count at all is none for a range, of which the counts are missing."""
        bar = certify_count(POOR)[1]
        self.assertFalse(accepts(("area", POOR.text, "all", 13, 20), ((13, 9, 4, 5, 4), (20, 12, 8, 5, 7), bar, bar)))
        self.assertFalse(accepts(("area", LAND.text, "all", 12, 10), (certify_count(LAND)[1], (10, 6, 4, 3, 3), (), ())))


class Others(unittest.TestCase):
    def test_boxes_of_great_sums(self):
        chance = random.Random(408)
        for total in (12, 13, 20, 60):
            box = some_box(chance, 3, 3, 3, total)
            faces = faces_around(box)
            claim = ("box", faces.text)
            self.assertIs(accepts(claim, box), True)
            for other in altered(box):
                self.assertIs(accepts(claim, other), False)
        self.assertIs(accepts(("box", THIRTEEN.text), (((5, 0, 0), (0, 4, 0), (0, 0, 4)),)), True)
        self.assertIs(accepts(("box", THIRTEEN.text), (((4, 1, 0), (1, 3, 0), (0, 0, 4)),)), False)

    def test_cells_that_are_not_hidden(self):
        page = Page(HALL, ONE, ((0, 0), (0, 1), (1, 1)))
        for cell in ((0, 0), (0, 1), (1, 0), (1, 1), (2, 0), (False, 0), [0, 0]):
            for width in (1, 0, -1, True, None):
                self.assertIs(accepts(("safe", page.text, cell, width), (ONE, ONE)), False)
        claim, paper = certify_safe(BLANK, (0, 0), 1)
        self.assertIs(accepts(claim, paper), True)
        self.assertIs(accepts(claim, paper[::-1]), True)
        self.assertIs(accepts(("safe", BLANK.text, (0, 0), 3), (((0, 5), (3, 1)), ((3, 2), (0, 4)))), True)
        self.assertIs(accepts(("safe", BLANK.text, (0, 0), 4), (((0, 5), (3, 1)), ((4, 1), (0, 4)))), False)
        self.assertIs(accepts(("safe", BLANK.text, (0, 0), 1), (((0, 5), (3, 1)), ((1, 5), (2, 1)))), False)
        self.assertIsNone(certify_safe(BLANK, (0, 0), 4))

    def test_ways(self):
        claim, paper = certify_way(GRID, ((0, 3), (1, 1)), ((1, 2), (0, 2)))
        self.assertIs(accepts(claim, paper), True)
        self.assertIs(accepts(claim[:2] + claim[3:] + claim[2:3], paper), False)
        self.assertIs(accepts(("way", GRID.text, claim[2], claim[2]), ()), True)
        self.assertIs(accepts(("way", GRID.text, ((0, 0), (0, 0)), ((0, 0), (0, 0))), ()), False)
        self.assertIs(accepts(claim, ()), False)
        great = table_cross((500, 500), (500, 500))
        ends_of = (((0, 500), (500, 0)), ((500, 0), (0, 500)))
        claim, paper = certify_way(great, *ends_of)
        self.assertIs(accepts(claim, paper), True)
        (step, times), = paper
        self.assertEqual(times, 500)
        self.assertIs(accepts(claim, ((step, 250), (step, 250))), True)
        for others in (499, 501, 0, 10 ** 90, True):
            self.assertIs(accepts(claim, ((step, others),)), False)

    def test_great_numbers(self):
        people = 10 ** 99 * 2
        claim, paper = certify_people(HALVES, people)
        self.assertIs(accepts(claim, paper), True)
        self.assertIs(accepts(claim, (paper[0] + 1, paper[1] - 1)), True)
        self.assertIs(accepts(claim, (paper[0] - 1, paper[1] + 1)), False)
        self.assertIs(accepts(claim, (paper[0] + 1, paper[1])), False)
        self.assertIs(accepts(("people", Poll(1, (0, 1000)).text, 1), (0, 1)), True)
        self.assertIs(accepts(("people", Poll(0, (0, 0)).text, 0), (0, 0)), False)
        self.assertIs(accepts(("profile", NINE.text), (0, 3, 0, 4, 2, 0)), True)
        self.assertIs(accepts(("profile", OPEN_NINE.text), (0, 0, 3, 1, 5, 0)), True)
        self.assertIs(accepts(("profile", Votes(60, (60, 60, 0), ((0, 60),) * 3).text), (60, 0, 0, 0, 0, 0)), True)


class AnyValues(unittest.TestCase):
    def test_values_of_any_kind(self):
        samples = {claim[0]: (claim, paper) for claim, paper in PAIRS}
        self.assertEqual(len(samples), 12)
        for claim, paper in samples.values():
            for value in STRANGE:
                self.assertIs(accepts(claim, value), False)
                self.assertIs(accepts(value, paper), False)
                self.assertIs(accepts((value,) + claim[1:], paper), False)
                self.assertIs(accepts((value, value), value), False)
                for at in range(1, len(claim)):
                    self.assertIs(accepts(claim[:at] + (value,) + claim[at + 1:], paper), False)
                for inner in self.with_parts(paper, value):
                    self.assertIs(accepts(claim, inner), False, (claim, paper))

    def with_parts(self, paper, value):
        """The paper with the value in the place of each of its parts, of theirs, and so on."""
        for at, part in enumerate(paper):
            if not (value is True and part is True or value is False and part is False):
                yield paper[:at] + (value,) + paper[at + 1:]
            if isinstance(part, tuple):
                for inner in self.with_parts(part, value):
                    yield paper[:at] + (inner,) + paper[at + 1:]

    def test_what_is_no_claim(self):
        for claim in ("land", (), ("count",), ("count", LAND), ["count", LAND.text], ("counts", LAND.text), ("", LAND.text),
                      ("count", LAND.text, None), ("COUNT", LAND.text), ("count", HALL.text), (LAND.text, "count"), None, 0,
                      (None, LAND.text), (("count",), LAND.text), ("area", LAND.text, "all"), ("no  count", LAND.text)):
            for paper in (None, (11, 7, 4, 5, 2), (), ((), (), True)):
                self.assertIs(accepts(claim, paper), False)

    def test_parameters(self):
        self.assertEqual(list(inspect.signature(accepts).parameters), ["claim", "paper"])


if __name__ == "__main__":
    unittest.main()
