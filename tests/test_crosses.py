"""Crosses ([12], [16])."""

import unittest

from support import AGES, ALONE, CROWDED, GRID, HALL, LAND, SHIFTS, SPOT, STRANGE, great_side, many_crosses
from toldcounts.areas import Areas
from toldcounts.crosses import Cross, table_cross, turned
from toldcounts.errors import InvalidCells, InvalidCount, InvalidStretch, InvalidText, InvalidTold, NotAreas

FREE = (0, 4000)
EIGHT = great_side("abcd", FREE, FREE, FREE)
NINE = Areas(EIGHT.lines + (("more", "a", FREE),))
FIVE = Areas((("all", "", FREE),) + tuple((name, "all", FREE) for name in "abcde"))
TEXT = """row all - 4-6
row day all 1-4
row night all 0-3
column both - 0-9
column old both 2-3
column young both 1-4
cells 0-2 0-4
cells 1 0-9"""


def table(rows, columns, cell=(0, 1)):
    return tuple(tuple(cell for _ in range(columns)) for _ in range(rows))


class Made(unittest.TestCase):
    def test_properties(self):
        cells = (((0, 2), (0, 4)), ((1, 1), (0, 9)))
        for cross in (Cross(SHIFTS, AGES, cells), Cross(cells=cells, columns=AGES, rows=SHIFTS)):
            self.assertEqual((cross.rows, cross.columns, cross.cells), (SHIFTS, AGES, cells))
            self.assertEqual((cross.text, str(cross)), (TEXT, TEXT))
            self.assertEqual(len(cross), 4)
            self.assertTrue(cross)
            self.assertEqual(cross.tolds, (("row", "all"), ("row", "day"), ("row", "night"), ("column", "both"),
                                           ("column", "old"), ("column", "young"), ("cell", 0, 0), ("cell", 0, 1),
                                           ("cell", 1, 0), ("cell", 1, 1)))

    def test_leaves_stand_in_the_order_of_their_lines(self):
        rows = Areas((("all", "", FREE), ("z", "all", FREE), ("m", "all", FREE), ("a", "z", FREE)))
        cross = Cross(rows, ALONE, (((1, 2),), ((3, 4),)))
        self.assertEqual(cross.rows.leaves, ("m", "a"))
        self.assertEqual(cross.tolds[-2:], (("cell", 0, 0), ("cell", 1, 0)))
        self.assertEqual(cross.text.split("\n")[-3:], ["column all - 3-5", "cells 1-2", "cells 3-4"])

    def test_sizes(self):
        self.assertEqual(len(Cross(EIGHT, EIGHT, table(4, 4))), 16)
        self.assertEqual(len(Cross(EIGHT, EIGHT, table(4, 4)).tolds), 32)
        self.assertEqual(len(Cross(ALONE, EIGHT, table(1, 4))), 4)
        self.assertEqual((len(SPOT), SPOT.text), (1, "row all - 3-5\ncolumn one - 4-9\ncells 0-7"))

    def test_sides_that_are_none(self):
        for value in STRANGE + (NINE, FIVE, SHIFTS.text, SHIFTS.lines, GRID):
            for call in (lambda: Cross(value, AGES, HALL.cells), lambda: Cross(SHIFTS, value, HALL.cells),
                         lambda: Cross(value, None, None), lambda: Cross(SHIFTS, columns=value, cells=None)):
                with self.assertRaises(NotAreas) as caught:
                    call()
                self.assertIs(caught.exception.given, value)

    def test_cells_that_are_none(self):
        row = ((0, 2), (0, 4))
        for value in STRANGE + ([row, row], "cells", {0: row}):
            if not isinstance(value, tuple):
                self.refuse(value, None)
            self.refuse((value, row), 0)
            self.refuse((row, value), 1)
            self.refuse((row, value, value), 1)
            self.refuse((row, (value, (0, 1))), 1)
            self.refuse((((0, 1), value), None), 0)
            self.refuse((row, row, value), 2)
        for value, index in (((), 0), ((row,), 1), ((row, row, row), 2), ((row, row[:1]), 1), ((row + row, row), 0),
                             ((row, list(row)), 1), ((((0, 1), (2, 1)), row), 0), ((row, ((0, 1), (0, 4001))), 1),
                             ((((0, 1), [0, 1]), row), 0), ((row, row, None, row), 2)):
            self.refuse(value, index)

    def refuse(self, cells, index):
        for call in (lambda: Cross(SHIFTS, AGES, cells), lambda: Cross(rows=SHIFTS, columns=AGES, cells=cells)):
            with self.assertRaises(InvalidCells) as caught:
                call()
            self.assertEqual(caught.exception.index, index)

    def test_objects_do_not_change(self):
        for name in ("rows", "columns", "cells", "text", "tolds"):
            with self.assertRaises(AttributeError):
                setattr(HALL, name, ())


class Told(unittest.TestCase):
    def test_there_and_back(self):
        for cross in [HALL, GRID, SPOT, CROWDED, Cross(EIGHT, EIGHT, table(4, 4))] + many_crosses(51, 30):
            self.assertEqual(Cross.told(cross.text), cross)
            told = Cross.told(text=cross.text)
            self.assertEqual((told.rows, told.columns, told.cells), (cross.rows, cross.columns, cross.cells))

    def test_texts_that_are_none(self):
        lines = TEXT.split("\n")
        for at in range(len(lines) - 1):
            self.refuse("\n".join(lines[:at] + [lines[at + 1], lines[at]] + lines[at + 2:]), at)
        for at in range(len(lines)):
            self.refuse("\n".join(lines[:at] + lines[at + 1:]))
            self.refuse("\n".join(lines[:at] + [lines[at]] + lines[at:]))
        for text in (TEXT + "\n", "\n" + TEXT, TEXT + " ", TEXT.replace("row", "area"), TEXT.replace("column", "row"),
                     TEXT.replace("cells", "cell"), TEXT.replace("0-2 0-4", "0-2  0-4"), TEXT.replace("0-2 ", ""),
                     TEXT.replace("0-9", "9-0"), TEXT.replace("0-9", "00-9"), TEXT.replace("cells 1", "cells 1-1"),
                     TEXT.replace("cells 1", "cells"), TEXT.replace("cells 1", "cells -"), TEXT.replace("\n", "\n\n"),
                     TEXT + "\ncells", TEXT + "\nrow", TEXT + "\nrow more all 1", TEXT + "\nhello", "", "row",
                     SHIFTS.text, "\n".join(lines[:6]), "\n".join(lines[6:])):
            self.refuse(text)
        for at in range(len(TEXT)):
            self.refuse(TEXT[:at] + "!" + TEXT[at + 1:])
            self.refuse(TEXT[:at] + " " + TEXT[at:])
            self.refuse(TEXT[:at] + "\n" + TEXT[at:])
            self.refuse(TEXT[:at] + TEXT[at + 1:], at)
        self.refuse(Cross(EIGHT, EIGHT, table(4, 4)).text.replace("row a left 0-4000", "row a left 0-4000\nrow x far 1"))

    def refuse(self, text, at=None):
        """Lines exchanged, or signs left out, may tell another cross: then it has that text."""
        try:
            cross = Cross.told(text)
        except InvalidText as error:
            self.assertIs(error.given, text)
        else:
            self.assertIsNotNone(at, text)
            self.assertEqual(cross.text, text)

    def test_values_that_are_no_strings(self):
        for value in STRANGE + (HALL, TEXT.encode(), (TEXT,)):
            with self.assertRaises(InvalidText) as caught:
                Cross.told(value)
            self.assertIs(caught.exception.given, value)


class Stretches(unittest.TestCase):
    def test_stretch_and_changed(self):
        told = [(4, 6), (1, 4), (0, 3), (0, 9), (2, 3), (1, 4), (0, 2), (0, 4), (1, 1), (0, 9)]
        for at, what in enumerate(HALL.tolds):
            self.assertEqual(HALL.stretch(what), told[at])
            self.assertEqual(HALL.stretch(what=what), told[at])
            for cross in (HALL.changed(what, (7, 8)), HALL.changed(stretch=(7, 8), what=what)):
                numbers = [cross.stretch(other) for other in HALL.tolds]
                self.assertEqual(numbers, told[:at] + [(7, 8)] + told[at + 1:])
                self.assertEqual(cross.tolds, HALL.tolds)
            self.assertEqual(HALL.changed(what, told[at]), HALL)

    def test_names_that_are_none(self):
        for value in STRANGE + (("row", "both"), ("column", "all"), ("row", "no"), ("row",), ("row", "all", 0),
                                ("area", "all"), ("area", "both"), ("", "old"), ("cell", "all"),
                                ("cell", "both"), ("row", "cell"), ("cell", 0), ("cell", 0, 2), ("cell", 2, 0), ("cell", -1, 0),
                                ("cell", 0, True), ("cell", False, 0), ("cell", (0, 0)), ("cell", 0, 0, 0),
                                ("cell", 0, None), ("cell", "0", "0"), ["cell", 0, 0], ("row", None), (None, "all"),
                                ("cells", 0, 0), "row all", ("row", ["all"]), ("Row", "all"), (0, 0)):
            for call in (lambda: HALL.stretch(value), lambda: HALL.changed(value, (0, 1)),
                         lambda: HALL.changed(what=value, stretch=None)):
                with self.assertRaises(InvalidTold) as caught:
                    call()
                self.assertIs(caught.exception.given, value)
        for strange in STRANGE:
            for value in ((strange, "all"), ("row", strange), (strange, 0, 0), ("cell", strange, 0), ("cell", 0, strange)):
                with self.assertRaises(InvalidTold):
                    HALL.stretch(value)

    def test_stretches_that_are_none(self):
        for value in STRANGE + ((2, 1), [1, 2], "1-2", (0, 4001)):
            for what in (("row", "all"), ("cell", 1, 1)):
                with self.assertRaises(InvalidStretch) as caught:
                    HALL.changed(what, value)
                self.assertIs(caught.exception.given, value)


class Equal(unittest.TestCase):
    def test_equal_exactly_if_the_texts_are(self):
        other = Cross(Areas(SHIFTS.lines), Areas(AGES.lines), HALL.cells)
        self.assertTrue(HALL == other)
        self.assertFalse(HALL != other)
        for what in HALL.tolds:
            self.assertFalse(HALL == HALL.changed(what, (3, 5)))
            self.assertTrue(HALL != HALL.changed(what, (3, 5)))

    def test_other_values(self):
        for other in STRANGE + (TEXT, HALL.cells, SHIFTS, LAND, Cross):
            self.assertIs(HALL == other, False)
            self.assertIs(HALL != other, True)


class Tables(unittest.TestCase):
    def test_turned(self):
        for cross in [HALL, SPOT] + many_crosses(52, 30, most_cells=6):
            other = turned(cross)
            self.assertEqual((other.rows, other.columns), (cross.columns, cross.rows))
            self.assertEqual(other.cells, tuple(zip(*cross.cells)))
            self.assertEqual(turned(cross=other), cross)

    def test_table_cross(self):
        cross = table_cross(row_sums=(0, 1000, 7), column_sums=(5,))
        self.assertEqual(cross.rows.lines, (("all", "", (1007, 1007)), ("a", "all", (0, 0)),
                                            ("b", "all", (1000, 1000)), ("c", "all", (7, 7))))
        self.assertEqual(cross.columns.lines, (("all", "", (5, 5)), ("a", "all", (5, 5))))
        self.assertEqual(cross.cells, table(3, 1, FREE))
        great = table_cross((1000,) * 4, (0, 0, 0, 0))
        self.assertEqual(great.rows.stretch("all"), (4000, 4000))
        self.assertEqual(great.columns.names, ("all", "a", "b", "c", "d"))

    def test_sums_that_are_none(self):
        for value in STRANGE + ((), (1, 2, 3, 4, 5), (1001,), (-1,), (1, None), (1, True), [1, 2], 3, (1, "2"), "12"):
            for call in (lambda: table_cross(value, (1,)), lambda: table_cross((1,), value),
                         lambda: table_cross(value, None), lambda: table_cross(row_sums=(1,), column_sums=value)):
                with self.assertRaises(InvalidCount) as caught:
                    call()
                self.assertIs(caught.exception.given, value)


if __name__ == "__main__":
    unittest.main()
