"""Claims with papers ([30])."""

import unittest

from support import (APART, CROWDED, FEW, GRID, HALL, LAND, ONES, POOR, STRANGE, THIRTEEN, TOWN, TWELVE, all_boxes, all_counts,
                     all_fillings, all_fits, crosses_around, ends, great_side, many_areas, many_crosses, many_faces,
                     many_reports)
from support_claims import is_right
from support_polls import HALVES, NINE, OPEN_NINE, all_polled, many_polls, many_votes, refused
from support_things import EMPTY
from toldcounts.certificates import (certify_area, certify_box, certify_cell, certify_count, certify_filling, certify_people,
                                     certify_profile, certify_safe, certify_scores, certify_way)
from toldcounts.checker import accepts
from toldcounts.crosses import Cross, table_cross
from toldcounts.errors import (InvalidCell, InvalidFilling, InvalidNumber, InvalidPeople, NoData, NotACross, NotAPage,
                               NotAPoll, NotAReport, NotAreas, NotFaces, NotVotes, TooMany, UnknownName)
from toldcounts.firsts import first_filling, last_filling
from toldcounts.pages import Page, guess
from toldcounts.votes import Votes

SMALL = ((1, 1), (1, 2), (2, 1), (2, 2))


class Small(unittest.TestCase):
    def check(self, pair, claim, right=True):
        """The claim of a pair; the paper is accepted, and is right where its data are few enough to be tried."""
        self.assertEqual(pair.__class__, tuple)
        self.assertEqual(repr(pair[0]), repr(claim))
        self.assertIs(accepts(*pair), True, pair)
        self.assertTrue(not right or is_right(*pair), pair)

    def test_counts(self):
        seen = set()
        for areas in many_areas(411, 150):
            counts = all_counts(areas)
            word = "count" if counts else "no count"
            seen.add(word)
            self.check(certify_count(areas), (word, areas.text))
            for at, name in enumerate(areas.names):
                if counts:
                    self.check(certify_area(areas, name), ("area", areas.text, name, *ends([count[at] for count in counts])))
                else:
                    refused(self, NoData, certify_area, areas, name)
        self.assertEqual(len(seen), 2)
        self.check(certify_area(areas=LAND, name="coast"), ("area", LAND.text, "coast", 3, 5))

    def test_fillings(self):
        for cross in crosses_around(412, 40, SMALL) + many_crosses(413, 60):
            fillings = all_fillings(cross)
            self.check(certify_filling(cross), ("filling" if fillings else "no filling", cross.text))
            for cell in [what[1:] for what in cross.tolds if what[0] == "cell"]:
                if fillings:
                    numbers = [filling[cell[0]][cell[1]] for filling in fillings]
                    self.check(certify_cell(cross, cell), ("cell", cross.text, cell, *ends(numbers)))
                else:
                    refused(self, NoData, certify_cell, cross, cell)
        self.check(certify_cell(cross=HALL, cell=(0, 1)), ("cell", HALL.text, (0, 1), 0, 3))

    def test_ways_and_safe_cells(self):
        safe = 0
        for cross in crosses_around(414, 50, SMALL + ((2, 2),) * 3, most=3, spread=3):
            fillings = all_fillings(cross)
            for other in fillings[::7]:
                self.check(certify_way(cross, fillings[-1], other), ("way", cross.text, fillings[-1], other))
            cells = tuple(what[1:] for what in cross.tolds if what[0] == "cell")
            for hidden in (cells, cells[1:], ()):
                page = Page(cross, fillings[len(fillings) // 2], hidden)
                for cell in cells:
                    low, high = guess(page, cell)
                    for width in (1, 2, high - low, high - low + 1, 10 ** 99):
                        if cell in hidden and 1 <= width <= high - low:
                            self.check(certify_safe(page, cell, width), ("safe", page.text, cell, width))
                            safe += 1
                        elif width > 0:
                            self.assertIsNone(certify_safe(page, cell, width))
        self.assertGreater(safe, 80)

    def test_scores_boxes_profiles_and_people(self):
        for report in many_reports(415, 60) + [FEW, EMPTY]:
            self.check_data(certify_scores(report), ("scores", report.text), all_fits(report))
        for faces in many_faces(416, 60) + [APART, ONES, TWELVE]:
            self.check_data(certify_box(faces), ("box", faces.text), all_boxes(faces))
        for votes, profiles in many_votes(417, 100):
            self.check_data(certify_profile(votes), ("profile", votes.text), profiles)
        for poll in many_polls(418, 40):
            for people in (1, 2, 5, 7, 30):
                self.check_data(certify_people(poll, people), ("people", poll.text, people), all_polled(poll, people))

    def check_data(self, pair, claim, data):
        if data:
            self.check(pair, claim)
        else:
            self.assertIsNone(pair)


class Great(unittest.TestCase):
    check = Small.check

    def test_great_areas_and_crosses(self):
        side = great_side("abcd", (900, 4000), (300, 2500), (100, 1200))
        cross = Cross(side, side, (((20, 700),) * 4,) * 4)
        for name in side.names:
            claim, paper = certify_area(side, name)
            self.check((claim, paper), ("area", side.text, name, *claim[3:]), right=False)
        for cell in ((0, 0), (3, 2)):
            claim, paper = certify_cell(cross, cell)
            self.check((claim, paper), ("cell", cross.text, cell, *claim[3:]), right=False)
            claim, paper = certify_cell(cross.changed(("row", "far"), (400, 420)), cell)
            self.assertTrue(accepts(claim, paper))
            self.assertEqual(claim[4] < 700, cell == (3, 2))
        self.check(certify_filling(cross), ("filling", cross.text), right=False)
        self.check(certify_count(side.changed("left", (2401, 2500))), ("no count", side.changed("left", (2401, 2500)).text),
                   right=False)
        none = cross.changed(("row", "left"), (300, 300)).changed(("cell", 0, 0), (281, 290))
        self.assertEqual(certify_filling(none)[0][0], "no filling")
        self.assertTrue(accepts(*certify_filling(none)))
        one, other = first_filling(cross), last_filling(cross)
        self.check(certify_way(cross, one, other), ("way", cross.text, one, other), right=False)
        self.check(certify_count(TOWN), ("count", TOWN.text), right=False)

    def test_great_tables(self):
        table = table_cross((1000, 7, 500), (3, 1000, 504))
        filling = first_filling(table)
        page = Page(table, filling, tuple(what[1:] for what in table.tolds if what[0] == "cell"))
        self.check(certify_safe(page, (0, 1), 500), ("safe", page.text, (0, 1), 500), right=False)
        self.assertIsNone(certify_safe(page, (0, 1), 508))
        self.check(certify_cell(table, (0, 1)), ("cell", table.text, (0, 1), 493, 1000), right=False)

    def test_many_people(self):
        self.check(certify_people(HALVES, 10 ** 99), ("people", HALVES.text, 10 ** 99), right=False)
        self.assertIsNone(certify_people(HALVES, 3))
        self.check(certify_profile(NINE), ("profile", NINE.text))
        self.assertIsNone(certify_profile(Votes(60, (61, 30, 30), ((0, 60),) * 3)))


class Wrong(unittest.TestCase):
    def test_objects(self):
        for value in STRANGE:
            for call, kind in ((certify_count, NotAreas), (certify_filling, NotACross), (certify_scores, NotAReport),
                               (certify_profile, NotVotes), (certify_box, NotFaces)):
                self.assertIs(refused(self, kind, call, value).given, value)
            for call, kind in ((certify_area, NotAreas), (certify_cell, NotACross), (certify_people, NotAPoll)):
                self.assertIs(refused(self, kind, call, value, None).given, value)
            for call, kind in ((certify_way, NotACross), (certify_safe, NotAPage)):
                self.assertIs(refused(self, kind, call, value, None, None).given, value)

    def test_parts(self):
        page = Page(HALL, ((1, 2), (1, 0)), ((0, 0),))
        for value in STRANGE:
            self.assertIs(refused(self, UnknownName, certify_area, POOR, value).given, value)
            self.assertIs(refused(self, InvalidCell, certify_cell, CROWDED, value).given, value)
            self.assertIs(refused(self, InvalidFilling, certify_way, GRID, value, None).given, value)
            self.assertIs(refused(self, InvalidFilling, certify_way, GRID, ((0, 3), (1, 1)), value).given, value)
            self.assertIs(refused(self, InvalidCell, certify_safe, page, value, None).given, value)
            if not (value.__class__ is int and value > 0):
                self.assertIs(refused(self, InvalidNumber, certify_safe, page, (1, 1), value).given, value)
                self.assertIs(refused(self, InvalidPeople, certify_people, HALVES, value).given, value)

    def test_what_is_too_much_or_not_there(self):
        self.assertEqual(refused(self, TooMany, certify_box, THIRTEEN).given, 13)
        refused(self, NoData, certify_area, POOR, "all")
        refused(self, NoData, certify_cell, CROWDED, (0, 0))
        self.assertEqual(certify_profile(votes=OPEN_NINE)[1], (0, 0, 3, 1, 5, 0))


if __name__ == "__main__":
    unittest.main()
