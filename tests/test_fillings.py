"""Fillings of crosses, and bars ([12], [13])."""

import itertools
import unittest

from support import (CROWDED, GRID, HALL, SPOT, STRANGE, all_fillings, great_side, many_crosses)
from toldcounts.areas import Areas
from toldcounts.crosses import Cross, table_cross
from toldcounts.fillings import a_filling, cross_bar, is_cross_bar, is_filling

SMALL = many_crosses(61, 300)


def flows(cross):
    """The flows of [13]: where each comes from, where it goes, LOW and HIGH; the outside is None."""
    found = []
    for name, parent, stretch in cross.rows.lines:
        found.append((("row", parent) if parent else None, ("row", name), stretch))
    for name, parent, stretch in cross.columns.lines:
        found.append((("column", name), ("column", parent) if parent else None, stretch))
    for row, cells in zip(cross.rows.leaves, cross.cells):
        for column, cell in zip(cross.columns.leaves, cells):
            found.append((("row", row), ("column", column), cell))
    return found


def is_bar(cross, rows, columns, outside):
    named = [("row", name) for name in rows] + [("column", name) for name in columns] + [None] * outside
    leaving = sum(low for start, goal, (low, _) in flows(cross) if start in named and goal not in named)
    coming = sum(high for start, goal, (_, high) in flows(cross) if goal in named and start not in named)
    return leaving > coming


def parts_of(names):
    names = sorted(names)
    return [some for many in range(len(names) + 1) for some in itertools.combinations(names, many)]


class Fillings(unittest.TestCase):
    def test_a_filling_or_a_bar(self):
        fit = 0
        for cross in SMALL:
            fillings = all_fillings(cross)
            found, bar = a_filling(cross), cross_bar(cross)
            fit += bool(fillings)
            self.assertEqual(found is not None, bool(fillings), cross.text)
            self.assertEqual(bar is None, bool(fillings), cross.text)
            if fillings:
                self.assertIn(found, fillings)
                self.assertIs(is_filling(cross, found), True)
            else:
                self.assertIs(is_cross_bar(cross, bar), True, (cross.text, bar))
                self.assertTrue(is_bar(cross, *bar))
        self.assertTrue(50 < fit < 250)

    def test_is_filling_for_all_small_tables(self):
        for cross in many_crosses(62, 40):
            fillings = all_fillings(cross)
            wide = len(cross.columns.leaves)
            for numbers in itertools.product(range(-1, 4), repeat=len(cross)):
                value = tuple(numbers[at:at + wide] for at in range(0, len(numbers), wide))
                self.assertIs(is_filling(cross, value), value in fillings, cross.text)

    def test_what_is_no_filling(self):
        good = ((1, 2), (1, 0))
        self.assertIs(is_filling(cross=HALL, value=good), True)
        for value in STRANGE + (list(good), ([1, 2], [1, 0]), good[:1], good + ((0, 0),), ((1, 2), (1,)),
                                ((1, 2, 0), (1, 0, 0)), ((1, 2), (1, False)), ((1, 2), (True, 0)), ((1, 2), (1, None)),
                                (1, 2, 1, 0), ((1, 2), (1, -1)), ((1, 2), (1, "0")), ((3, 0), (1, 0)), "0 2/1 1"):
            self.assertIs(is_filling(HALL, value), False)
            self.assertIs(is_filling(HALL, (value, (1, 0))), False)
            self.assertIs(is_filling(HALL, ((1, 2), (1, value))), False)

    def test_one_cell(self):
        self.assertEqual([is_filling(SPOT, ((number,),)) for number in range(9)],
                         [False] * 4 + [True, True] + [False] * 3)
        self.assertIn(a_filling(SPOT), (((4,),), ((5,),)))
        self.assertIsNone(cross_bar(SPOT))
        none = SPOT.changed(("cell", 0, 0), (0, 3))
        self.assertIsNone(a_filling(none))
        self.assertTrue(is_cross_bar(none, cross_bar(none)))
        self.assertIs(is_cross_bar(none, (("all",), (), False)), False)
        self.assertIs(is_cross_bar(none, ((), ("one",), False)), True)

    def test_great_numbers(self):
        side = great_side("abcd", (0, 4000), (900, 3000), (100, 2000))
        other = great_side("zyxw", (0, 4000), (900, 3000), (100, 999))
        cells = tuple(tuple((at * 7, 100 * at + 300) for at in range(row, row + 4)) for row in range(4))
        cross = Cross(side, other, cells)
        self.assertTrue(is_filling(cross, a_filling(cross)))
        for low in (3000, 3995, 3996, 3997, 4000):
            high = cross.changed(("row", "all"), (low, 4000))
            self.assertEqual(a_filling(high) is not None, low <= 3996)
            self.assertEqual(cross_bar(high) is None, low <= 3996)
            self.assertEqual(is_cross_bar(high, ((), ("all", "far", "left", "right"), True)), low > 3996)
        table = table_cross((1000, 1000, 1000, 1000), (1000, 1000, 1000, 1000))
        self.assertTrue(is_filling(table, a_filling(table)))
        self.assertTrue(is_cross_bar(table_cross((5,), (6,)), cross_bar(table_cross((5,), (6,)))))


class Bars(unittest.TestCase):
    def test_all_names_of_small_crosses(self):
        bars = 0
        for cross in SMALL[:120]:
            for rows, columns in itertools.product(parts_of(cross.rows.names), parts_of(cross.columns.names)):
                for outside in (True, False):
                    right = is_bar(cross, rows, columns, outside)
                    bars += right
                    self.assertIs(is_cross_bar(cross, (rows, columns, outside)), right, cross.text)
        self.assertGreater(bars, 200)

    def test_bars_by_one(self):
        for low, bar in ((7, False), (8, True)):
            cross = HALL.changed(("row", "all"), (low, 9))
            self.assertIs(is_cross_bar(cross=cross, value=((), ("both",), True)), bar)
            self.assertEqual(cross_bar(cross) is not None, bar)
        for high, bar in ((3, False), (2, True)):
            cross = HALL.changed(("column", "both"), (0, high))
            self.assertIs(is_cross_bar(cross, ((), ("both",), False)), False)
            self.assertIs(is_cross_bar(cross, (("all", "day", "night"), ("old", "young"), True)), bar)

    def test_what_is_no_bar(self):
        good = ((), ("both",), True)
        self.assertIs(is_cross_bar(CROWDED, good), True)
        for value in STRANGE + (list(good), good[:2], good + (True,), ((), ("both",), 1), ((), ("both",), False),
                                ((), ("both",), None), ([], ("both",), True), ((), ["both"], True),
                                ((), "both", True), ("", ("both",), True), ((), ("both", "both"), True),
                                ((), ("both", "no"), True), (("no",), ("both",), True), ((), (None, "both"), True),
                                ((), ("all",), True), (("both",), (), True), ((), ("young", "both"), True)):
            self.assertIs(is_cross_bar(CROWDED, value), False)
        for value in STRANGE:
            if not (isinstance(value, tuple) and len(value) == 0):
                self.assertIs(is_cross_bar(CROWDED, (value, ("both",), True)), False)
            self.assertIs(is_cross_bar(CROWDED, ((), value, True)), False)
            self.assertIs(is_cross_bar(CROWDED, ((), ("both", value), True)), False)
            if value is not True:
                self.assertIs(is_cross_bar(CROWDED, ((), ("both",), value)), False)

    def test_crosses_that_are_just_none(self):
        rows = Areas((("all", "", (0, 9)), ("a", "all", (2, 4)), ("b", "all", (2, 4))))
        for high, fits in ((4, True), (3, False)):
            cross = Cross(rows, rows.changed("all", (0, high)), (((0, 4), (0, 4)), ((0, 4), (0, 4))))
            self.assertEqual(a_filling(cross) is not None, fits)
            self.assertEqual(cross_bar(cross) is None, fits)
        self.assertIsNone(cross_bar(cross=GRID))
        self.assertIsNotNone(a_filling(cross=GRID))


if __name__ == "__main__":
    unittest.main()
