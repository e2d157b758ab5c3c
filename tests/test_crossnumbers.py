"""How many fillings there are, and which index each has ([3], [12], [13])."""

import collections
import functools
import itertools
import math
import unittest

from support import (CROWDED, GRID, HALL, SMALL_SIZES, SPOT, STRANGE, all_fillings, crosses_around, great_side,
                     leaves_in, many_crosses)
from toldcounts.areas import Areas
from toldcounts.crosses import Cross, table_cross, turned
from toldcounts.crossnumbers import cell_numbers, filling_at, fillings_number, index_of_filling
from toldcounts.crossranges import cell_range
from toldcounts.errors import InvalidCell, InvalidFilling, InvalidIndex, NotACross, TooMany
from toldcounts.fillings import is_filling
from toldcounts.firsts import first_filling, last_filling, next_filling

SMALL = crosses_around(111, 150, SMALL_SIZES) + many_crosses(112, 100)
GREATER = ((3, 3), (2, 4), (4, 2), (3, 4), (4, 3))


def sums_of(cross):
    """For each area: its cells, and its stretch."""
    rows, columns = range(len(cross.cells)), range(len(cross.cells[0]))
    found = [({(row, column) for row in leaves_in(cross.rows, name) for column in columns}, stretch)
             for name, _, stretch in cross.rows.lines]
    return found + [({(row, column) for row in rows for column in leaves_in(cross.columns, name)}, stretch)
                    for name, _, stretch in cross.columns.lines]


def number_by_cells(cross):
    """How many fillings there are, by going from cell to cell with what each area has so far."""
    cells = list(itertools.product(range(len(cross.cells)), range(len(cross.cells[0]))))
    sums = sums_of(cross)
    last = [max(cells.index(cell) for cell in some) for some, _ in sums]

    @functools.lru_cache(None)
    def number_from(at, had):
        if at == len(cells):
            return 1
        low, high = cross.cells[cells[at][0]][cells[at][1]]
        total = 0
        for number in range(low, min(high, 40) + 1):
            now = [much if much is None or cells[at] not in some else much + number
                   for much, (some, _) in zip(had, sums)]
            if any(much is not None and much > most for much, (_, (_, most)) in zip(now, sums)):
                break
            if all(last[k] != at or now[k] >= sums[k][1][0] for k in range(len(sums))):
                total += number_from(at + 1, tuple(None if last[k] <= at else now[k] for k in range(len(sums))))
        return total

    return number_from(0, (0,) * len(sums))


def star(whole, leaf, names="abcd"):
    return Areas((("all", "", whole),) + tuple((name, "all", leaf) for name in names))


class Small(unittest.TestCase):
    def test_all_fillings(self):
        many = 0
        for cross in SMALL:
            fillings = all_fillings(cross)
            many += len(fillings)
            self.assertEqual(fillings_number(cross), len(fillings), cross.text)
            for index, filling in enumerate(fillings):
                self.assertEqual(filling_at(cross, index), filling, cross.text)
                self.assertEqual(index_of_filling(cross, filling), index, cross.text)
            for index in (len(fillings), len(fillings) + 7):
                with self.assertRaises(InvalidIndex) as caught:
                    filling_at(cross, index)
                self.assertEqual(caught.exception.given, index)
            for row, column in itertools.product(range(len(cross.cells)), range(len(cross.cells[0]))):
                numbers = collections.Counter(filling[row][column] for filling in fillings)
                self.assertEqual(cell_numbers(cross, (row, column)), tuple(sorted(numbers.items())), cross.text)
        self.assertGreater(many, 700)

    def test_greater_crosses(self):
        for cross in crosses_around(113, 150, GREATER) + crosses_around(114, 40, ((4, 4), (3, 3)), most=1):
            number = number_by_cells(cross)
            self.assertGreater(number, 0)
            self.assertEqual(fillings_number(cross), number, cross.text)
            self.assertEqual(fillings_number(turned(cross)), number, cross.text)
            self.assertEqual(filling_at(cross, 0), first_filling(cross))
            self.assertEqual(filling_at(cross, number - 1), last_filling(cross))
            for index in {number // 3, number // 2, number * 6 // 7}:
                filling = filling_at(cross, index)
                self.assertTrue(is_filling(cross, filling))
                self.assertEqual(index_of_filling(cross, filling), index)
                behind = next_filling(cross, filling)
                self.assertEqual(behind, None if index == number - 1 else filling_at(cross, index + 1))
            for cell in ((0, 0), (1, 1), (len(cross.cells) - 1, 0)):
                pairs = cell_numbers(cross, cell)
                self.assertEqual(sum(ways for _, ways in pairs), number)
                some, ways = pairs[len(pairs) // 2]
                self.assertEqual(fillings_number(cross.changed(("cell", *cell), (some, some))), ways)


class Edges(unittest.TestCase):
    def test_one_cell(self):
        self.assertEqual((fillings_number(SPOT), cell_numbers(SPOT, (0, 0))), (2, ((4, 1), (5, 1))))
        self.assertEqual((filling_at(SPOT, 0), filling_at(SPOT, 1)), (((4,),), ((5,),)))
        self.assertEqual(index_of_filling(SPOT, ((5,),)), 1)
        alone = Areas((("all", "", (0, 40)),))
        self.assertEqual(fillings_number(Cross(alone, alone, (((0, 4000),),))), 41)
        self.assertEqual(filling_at(Cross(alone, alone, (((0, 4000),),)), 40), ((40,),))

    def test_four_by_four_cells(self):
        # So many tables of four rows and columns have all sums alike: known numbers.
        for number, many in ((0, 1), (1, 24), (2, 282), (3, 2008), (5, 40176), (10, 5045326)):
            self.assertEqual(fillings_number(table_cross((number,) * 4, (number,) * 4)), many)
        table = table_cross((10, 10, 10, 10), (7, 13, 12, 8))
        index = fillings_number(table) * 5 // 8
        self.assertEqual(index_of_filling(table, filling_at(table, index)), index)
        pairs = cell_numbers(table, (2, 3))
        self.assertEqual([number for number, _ in pairs], list(range(9)))
        self.assertEqual(sum(ways for _, ways in pairs), fillings_number(table))

    def test_free_cells(self):
        free = Cross(star((0, 40), (0, 4000)), star((0, 4000), (0, 4000)), (((0, 4000),) * 4,) * 4)
        self.assertEqual(fillings_number(free), math.comb(56, 16))
        self.assertEqual(cell_numbers(free, (1, 2))[40], (40, 1))
        self.assertEqual(cell_numbers(free, (3, 3))[0], (0, math.comb(55, 15)))
        last = math.comb(56, 16) - 1
        self.assertEqual(filling_at(free, last), ((40, 0, 0, 0),) + ((0, 0, 0, 0),) * 3)
        self.assertEqual(index_of_filling(free, filling_at(free, last // 3)), last // 3)
        just = free.changed(("row", "all"), (40, 40))
        self.assertEqual(fillings_number(just), math.comb(55, 15))
        rows = Cross(star((0, 40), (0, 10)), star((0, 4000), (0, 4000)), (((0, 4000),) * 4,) * 4)
        self.assertEqual(fillings_number(rows), math.comb(14, 4) ** 4)
        self.assertEqual(fillings_number(turned(rows).changed(("row", "all"), (0, 40))), math.comb(14, 4) ** 4)

    def test_areas_within_areas(self):
        rows = great_side("abcd", (3, 9), (0, 6), (0, 4))
        columns = great_side("wxyz", (0, 8), (1, 5), (0, 3))
        cross = Cross(rows, columns, (((0, 1),) * 4,) * 4)
        self.assertEqual(fillings_number(cross), number_by_cells(cross))
        mixed = Areas((("all", "", (2, 12)), ("left", "all", (1, 4)), ("right", "all", (0, 4)), ("a", "left", (0, 9)),
                       ("b", "right", (1, 9)), ("c", "left", (0, 2)), ("d", "right", (0, 9))))
        cross = Cross(mixed, mixed, (((0, 1), (0, 2), (0, 1), (0, 2)),) * 4)
        number = fillings_number(cross)
        self.assertEqual(number, number_by_cells(cross))
        for index in (0, 1, number // 2, number - 1):
            self.assertEqual(index_of_filling(cross, filling_at(cross, index)), index)

    def test_numbers_that_no_filling_has(self):
        text = """row all - 0-5
row g all 0-2
row b all 3-40
row d b 1-6
row f b 1-40
row e d 0-5
column all - 0-5
column a all 0-3
column f all 0-3
column g a 1-2
column e g 0-2
column b g 0-4
cells 0-1 0-1 0-1
cells 0-1 0-1 0-1
cells 0 0-1 1"""
        cross = Cross.told(text)
        self.assertEqual(cell_numbers(cross, (0, 1)), ((0, fillings_number(cross)),))
        for cross in crosses_around(115, 60, GREATER):
            for cell in itertools.product(range(len(cross.cells)), range(len(cross.cells[0]))):
                low, high = cell_range(cross, cell)
                self.assertEqual([number for number, _ in cell_numbers(cross, cell)], list(range(low, high + 1)))

    def test_no_data(self):
        self.assertEqual((fillings_number(CROWDED), cell_numbers(CROWDED, (0, 0))), (0, ()))
        with self.assertRaises(InvalidIndex) as caught:
            filling_at(CROWDED, 0)
        self.assertEqual(caught.exception.given, 0)
        with self.assertRaises(InvalidFilling):
            index_of_filling(CROWDED, ((1, 2), (1, 0)))
        # No sum shows at once that nothing fits here.
        odd = Cross(star((0, 40), (3, 3), "ab"), star((0, 40), (3, 3), "ab"), (((0, 1), (3, 3)), ((0, 3), (0, 3))))
        self.assertEqual(fillings_number(odd), number_by_cells(odd))

    def test_by_name(self):
        self.assertEqual(fillings_number(cross=GRID), 2)
        self.assertEqual(filling_at(cross=GRID, index=1), ((1, 2), (0, 2)))
        self.assertEqual(index_of_filling(cross=GRID, filling=((1, 2), (0, 2))), 1)
        self.assertEqual(cell_numbers(cross=GRID, cell=(0, 1)), ((2, 1), (3, 1)))


class Wrong(unittest.TestCase):
    CALLS = (fillings_number, lambda cross: filling_at(cross, None), lambda cross: index_of_filling(cross, None),
             lambda cross: cell_numbers(cross, None))

    def test_too_many(self):
        for most in (41, 42, 4000):
            for call in self.CALLS:
                with self.assertRaises(TooMany) as caught:
                    call(HALL.changed(("row", "all"), (4, most)))
                self.assertEqual(caught.exception.given, most)
        wide = HALL.changed(("row", "all"), (4, 40))
        self.assertEqual(fillings_number(wide), len(all_fillings(wide)))
        self.assertEqual(fillings_number(HALL.changed(("column", "both"), (4, 4000))), 15)
        # The HIGH counts, also if less could be had at most.
        with self.assertRaises(TooMany):
            fillings_number(CROWDED.changed(("row", "all"), (0, 41)))

    def test_crosses_that_are_none(self):
        for call in self.CALLS:
            for value in STRANGE + (HALL.text, HALL.rows):
                with self.assertRaises(NotACross) as caught:
                    call(value)
                self.assertIs(caught.exception.given, value)

    def test_indexes_that_are_none(self):
        for value in STRANGE + (15, 2.0 == 2, "0", (0,), [0]):
            for cross in (HALL, CROWDED):
                with self.assertRaises(InvalidIndex) as caught:
                    filling_at(cross, value)
                self.assertIs(caught.exception.given, value)

    def test_fillings_and_cells_that_are_none(self):
        for value in STRANGE + (((1, 2), (0, 0)), [[1, 2], [1, 0]], ((1, 2),), ((1, 2), (1, False))):
            with self.assertRaises(InvalidFilling) as caught:
                index_of_filling(HALL, value)
            self.assertIs(caught.exception.given, value)
        for value in STRANGE + ((0, 2), (2, 0), (0,), (0, 0, 0), [0, 0], (0, -1), (0, True)):
            for cross in (HALL, CROWDED):
                with self.assertRaises(InvalidCell) as caught:
                    cell_numbers(cross, value)
                self.assertIs(caught.exception.given, value)


if __name__ == "__main__":
    unittest.main()
