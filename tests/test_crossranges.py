"""The ranges of crosses ([12] to [14], [16])."""

import itertools
import unittest

from support import (CROWDED, GRID, HALL, SPOT, STRANGE, all_fillings, ends, great_side, many_crosses, told_numbers)
from toldcounts.areas import Areas
from toldcounts.crosses import Cross, table_cross
from toldcounts.crossranges import (block_range, cell_range, column_range, needless_tolds, row_range, sure_cells,
                                    tight_cross)
from toldcounts.errors import InvalidCell, InvalidCells, NoData, UnknownName
from toldcounts.fillings import a_filling

SMALL = many_crosses(71, 200) + many_crosses(72, 40, most_cells=6)
FREE = (0, 4000)


def lots(many):
    """All ascending tuples of indexes below the number, but the empty one."""
    return [some for few in range(1, many + 1) for some in itertools.combinations(range(many), few)]


class Small(unittest.TestCase):
    def test_ranges(self):
        fit = 0
        for cross in SMALL:
            fillings = all_fillings(cross)
            if not fillings:
                self.check_no_data(cross)
                continue
            fit += 1
            told = told_numbers(cross, fillings)
            for what in cross.tolds:
                if what[0] == "row":
                    self.assertEqual(row_range(cross, what[1]), ends(told[what]), cross.text)
                elif what[0] == "column":
                    self.assertEqual(column_range(cross, what[1]), ends(told[what]), cross.text)
                else:
                    self.assertEqual(cell_range(cross, what[1:]), ends(told[what]), cross.text)
            sure = [what[1:] for what in cross.tolds if what[0] == "cell" and len(set(told[what])) == 1]
            self.assertEqual(sure_cells(cross), tuple(sure))
            tight = tight_cross(cross)
            self.assertEqual([tight.stretch(what) for what in cross.tolds], [ends(told[what]) for what in cross.tolds])
            self.assertEqual(all_fillings(tight), fillings)
        self.assertGreater(fit, 80)

    def check_no_data(self, cross):
        for call in (lambda: cell_range(cross, (0, 0)), lambda: row_range(cross, "all"), lambda: sure_cells(cross),
                     lambda: column_range(cross, "all"), lambda: tight_cross(cross),
                     lambda: block_range(cross, (0,), (0,))):
            with self.assertRaises(NoData):
                call()

    def test_blocks(self):
        for cross in SMALL:
            fillings = all_fillings(cross)
            if not fillings:
                continue
            for rows, columns in itertools.product(lots(len(cross.rows.leaves)), lots(len(cross.columns.leaves))):
                sums = [sum(table[row][column] for row in rows for column in columns) for table in fillings]
                self.assertEqual(block_range(cross, rows, columns), ends(sums), cross.text)

    def test_needless_stretches(self):
        many = {True: 0, False: 0}
        for cross in SMALL[:170]:
            fillings = set(all_fillings(cross))
            told = []
            for what in cross.tolds:
                # No number of crosses as small as these reaches 12, and the cells are tried one by one.
                if set(all_fillings(cross.changed(what, (0, 12)))) <= fillings:
                    told.append(what)
            many[bool(fillings)] += len(told)
            self.assertEqual(needless_tolds(cross), tuple(told), cross.text)
        self.assertGreater(min(many.values()), 100)


class Edges(unittest.TestCase):
    def test_one_cell(self):
        self.assertEqual(cell_range(SPOT, (0, 0)), (4, 5))
        self.assertEqual((row_range(SPOT, "all"), column_range(SPOT, "one")), ((4, 5), (4, 5)))
        self.assertEqual(block_range(SPOT, (0,), (0,)), (4, 5))
        self.assertEqual(sure_cells(SPOT), ())
        self.assertEqual(sure_cells(SPOT.changed(("cell", 0, 0), (0, 4))), ((0, 0),))
        self.assertEqual(tight_cross(SPOT).text, "row all - 4-5\ncolumn one - 4-5\ncells 4-5")
        self.assertEqual(needless_tolds(SPOT), (("cell", 0, 0),))

    def test_needless_by_one(self):
        for what, stretch, needless in ((("cell", 0, 0), (4, 5), True), (("cell", 0, 0), (4, 4), False),
                                        (("cell", 0, 0), (5, 5), False), (("row", "all"), (4, 7), True),
                                        (("row", "all"), (4, 6), False), (("row", "all"), (5, 7), False),
                                        (("column", "one"), (3, 5), True), (("column", "one"), (3, 4), False)):
            cross = SPOT.changed(what, stretch)
            self.assertEqual(what in needless_tolds(cross), needless, (what, stretch))

    def test_where_no_filling_is_what_is_needless_is_told_by_its_own_words(self):
        self.assertEqual(all_fillings(CROWDED), [])
        needless = [what for what in CROWDED.tolds if not all_fillings(CROWDED.changed(what, (0, 12)))]
        self.assertEqual(needless_tolds(CROWDED), tuple(needless))
        self.assertNotIn(("row", "all"), needless)
        twice = CROWDED.changed(("cell", 0, 0), (5, 5))
        self.assertEqual(needless_tolds(twice), twice.tolds)

    def test_four_by_four_cells_with_great_numbers(self):
        rows, columns = (1000, 700, 300, 1), (1, 400, 600, 1000)
        cross = table_cross(rows, columns)
        for row, column in itertools.product(range(4), repeat=2):
            low = max(0, rows[row] + columns[column] - 2001)
            self.assertEqual(cell_range(cross, (row, column)), (low, min(rows[row], columns[column])))
        for some, others in itertools.product(lots(4), repeat=2):
            one, other = sum(rows[at] for at in some), sum(columns[at] for at in others)
            self.assertEqual(block_range(cross, some, others), (max(0, one + other - 2001), min(one, other)))
        self.assertEqual(needless_tolds(cross), cross.tolds)
        self.assertEqual(sure_cells(cross), ())
        self.assertEqual(sure_cells(table_cross((0, 5), (0, 5))), ((0, 0), (0, 1), (1, 0), (1, 1)))

    def test_eight_lines_a_side(self):
        side = great_side("abcd", (0, 4000), (500, 2500), (0, 1500))
        cells = tuple(tuple((10, 1000 + 10 * row + at) for at in range(4)) for row in range(4))
        cross = Cross(side, side, cells)
        tight = tight_cross(cross)
        self.assertEqual(tight_cross(tight), tight)
        self.assertEqual(tight.stretch(("cell", 3, 3)), (10, 1033))
        self.assertEqual((tight.stretch(("row", "all")), tight.stretch(("row", "a"))), ((1000, 4000), (40, 1500)))
        for what in (("cell", 1, 2), ("row", "far"), ("column", "left"), ("column", "all")):
            low, high = tight.stretch(what)
            for end, fits in ((low, True), (high, True), (low - 1, False), (high + 1, False)):
                if 0 <= end <= 4000:
                    free = cross.stretch(what)[0] <= end <= cross.stretch(what)[1]
                    self.assertEqual(free and a_filling(cross.changed(what, (end, end))) is not None, fits)
        self.assertEqual(block_range(cross, (0, 1), (0, 1)), (40, 2460))
        self.assertEqual(block_range(cross, (0, 1, 2, 3), (0, 1, 2, 3)), (1000, 4000))

    def test_blocks_that_want_many_rings(self):
        free = Areas((("all", "", FREE), ("a", "all", (0, 1999)), ("b", "all", (0, 2000)), ("c", "all", (0, 1))))
        cross = Cross(free, free, (((0, 1999), (0, 1), FREE), ((0, 1), (0, 1999), FREE), (FREE, FREE, (0, 1))))
        self.assertEqual(block_range(cross, (0, 1), (0, 1)), (0, 3999))
        self.assertEqual(block_range(cross, (0, 2), (1, 2)), (0, 3))

    def test_by_name(self):
        self.assertEqual(cell_range(cross=HALL, cell=(0, 1)), (0, 3))
        self.assertEqual(row_range(cross=HALL, name="night"), (1, 3))
        self.assertEqual(column_range(cross=HALL, name="both"), (4, 6))
        self.assertEqual(block_range(cross=HALL, rows=(0, 1), columns=(1,)), (1, 4))
        self.assertEqual(sure_cells(cross=HALL), ((1, 0),))
        self.assertEqual(tight_cross(cross=GRID).stretch(("cell", 0, 0)), (0, 1))
        self.assertEqual(needless_tolds(cross=SPOT), (("cell", 0, 0),))


class Wrong(unittest.TestCase):
    def test_cells_that_are_none(self):
        for value in STRANGE + ((0, 2), (2, 0), (0,), (0, 0, 0), [0, 0], (0, -1), (0, True), (False, 0), ("cell", 0, 0)):
            for cross in (HALL, CROWDED):
                with self.assertRaises(InvalidCell) as caught:
                    cell_range(cross, value)
                self.assertIs(caught.exception.given, value)

    def test_names_that_are_none(self):
        for value in STRANGE + ("old", "no"):
            for cross in (HALL, CROWDED):
                with self.assertRaises(UnknownName) as caught:
                    row_range(cross, value)
                self.assertIs(caught.exception.given, value)
        for value in STRANGE + ("day", "all", "no"):
            for cross in (HALL, CROWDED):
                with self.assertRaises(UnknownName) as caught:
                    column_range(cross, value)
                self.assertIs(caught.exception.given, value)

    def test_indexes_that_are_none(self):
        for value in STRANGE:
            if not isinstance(value, tuple) or len(value) == 0:
                self.refuse(value, None)
            self.refuse((value,), 0)
            self.refuse((0, value, 1), 1)
        for value, index in (((), None), ([0, 1], None), (0, None), ((2,), 0), ((0, 2), 1), ((1, 0), 1), ((0, 0), 1),
                             ((-1,), 0), ((0, 1, 1), 2), ((0, 1, 2), 2), ((True,), 0), ((0, True), 1), (("0",), 0)):
            self.refuse(value, index)

    def refuse(self, value, index):
        for call in (lambda: block_range(HALL, value, (0,)), lambda: block_range(HALL, (0,), value),
                     lambda: block_range(CROWDED, value, None), lambda: block_range(CROWDED, rows=(1,), columns=value)):
            with self.assertRaises(InvalidCells) as caught:
                call()
            self.assertEqual(caught.exception.index, index)


if __name__ == "__main__":
    unittest.main()
