"""Roundings of fillings that still add up ([11], [17])."""

import itertools
import random
import unittest

from support import (CROWDED, HALL, SMALL_SIZES, SPOT, STRANGE, all_fillings, column_sums, cross_around, great_side,
                     leaves_in, row_sums)
from toldcounts.crosses import Cross, table_cross
from toldcounts.crossroundings import either_way_cells, first_rounding, is_rounding, rounding_cross
from toldcounts.errors import InvalidFilling, InvalidNumber, NotACross
from toldcounts.fillings import is_filling
from toldcounts.firsts import first_filling

SHEET, NUMBERS = table_cross((5, 4), (3, 6)), ((2, 3), (1, 3))


def next_to(number, base):
    """The multiples of the base next to the number."""
    return {number // base * base, -(-number // base) * base}


def adds_up(areas, sums, rounded, base):
    """Whether the sum in each area is next to its number."""
    return all(sum(rounded[leaf] for leaf in leaves_in(areas, name))
               in next_to(sum(sums[leaf] for leaf in leaves_in(areas, name)), base) for name in areas.names)


def all_roundings(cross, filling, base):
    """All roundings, by trying the multiples next to each number."""
    wide = len(filling[0])
    tried = [sorted(next_to(number, base)) for row in filling for number in row]
    found = []
    for numbers in itertools.product(*tried):
        table = tuple(numbers[at:at + wide] for at in range(0, len(numbers), wide))
        if adds_up(cross.rows, row_sums(filling), row_sums(table), base):
            if adds_up(cross.columns, column_sums(filling), column_sums(table), base):
                found.append(table)
    return found


def samples():
    chance = random.Random(141)
    for _ in range(150):
        cross, filling = cross_around(chance, *chance.choice(SMALL_SIZES + ((3, 3), (2, 4))), 9, 3)
        if is_filling(cross, filling):
            yield cross, filling, chance.choice((2, 3, 4, 5, 7, 100))


class Small(unittest.TestCase):
    def test_all_roundings(self):
        either = 0
        for cross, filling, base in samples():
            roundings = all_roundings(cross, filling, base)
            self.assertEqual(first_rounding(cross, filling, base), roundings[0], (cross.text, filling, base))
            rounded = rounding_cross(cross, filling, base)
            divided = [tuple(tuple(number // base for number in row) for row in table) for table in roundings]
            self.assertEqual(all_fillings(rounded), divided)
            cells = itertools.product(range(len(filling)), range(len(filling[0])))
            both = tuple((row, column) for row, column in cells
                         if {table[row][column] - filling[row][column] > 0 for table in roundings
                             if table[row][column] != filling[row][column]} == {True, False})
            either += len(both)
            self.assertEqual(either_way_cells(cross, filling, base), both)
        self.assertGreater(either, 300)

    def test_is_rounding(self):
        for cross, filling, base in list(samples())[:60]:
            if len(cross) > 4:
                continue
            roundings = all_roundings(cross, filling, base)
            wide = len(filling[0])
            tried = [sorted({number // base * base + more for more in (-base, 0, 1, base, 2 * base)})
                     for row in filling for number in row]
            for numbers in itertools.product(*tried):
                table = tuple(numbers[at:at + wide] for at in range(0, len(numbers), wide))
                self.assertIs(is_rounding(cross, filling, base, table), table in roundings)

    def test_the_rounding_cross(self):
        cross = rounding_cross(SHEET, NUMBERS, 5)
        self.assertEqual(cross.text, "row all - 1-2\nrow a all 1\nrow b all 0-1\ncolumn all - 1-2\n"
                                     "column a all 0-1\ncolumn b all 1-2\ncells 0-1 0-1\ncells 0-1 0-1")


class Edges(unittest.TestCase):
    def test_bases(self):
        self.assertEqual(first_rounding(SHEET, NUMBERS, 2), ((2, 2), (0, 4)))
        self.assertEqual(first_rounding(SHEET, NUMBERS, 100), ((0, 0), (0, 0)))
        self.assertEqual(either_way_cells(SHEET, NUMBERS, 100), ((0, 0), (0, 1), (1, 0), (1, 1)))
        self.assertEqual(either_way_cells(SHEET, NUMBERS, 2), ((0, 1), (1, 0), (1, 1)))
        self.assertIs(is_rounding(SHEET, NUMBERS, 100, ((100, 0), (0, 0))), True)
        self.assertIs(is_rounding(SHEET, NUMBERS, 100, ((100, 100), (0, 0))), False)

    def test_multiples_already(self):
        table = table_cross((10, 30), (25, 15))
        filling = ((10, 0), (15, 15))
        self.assertEqual(first_rounding(table, filling, 5), filling)
        self.assertEqual(either_way_cells(table, filling, 5), ())
        self.assertIs(is_rounding(table, filling, 5, filling), True)
        self.assertEqual(rounding_cross(table, filling, 5).cells, (((2, 2), (0, 0)), ((3, 3), (3, 3))))
        for other in (((5, 5), (20, 10)), ((10, 0), (15, 20))):
            self.assertIs(is_rounding(table, filling, 5, other), False)

    def test_a_rounding_need_not_lie_in_the_told_stretches(self):
        self.assertEqual(first_rounding(SPOT, ((5,),), 4), ((4,),))
        self.assertIs(is_rounding(SPOT, ((5,),), 4, ((8,),)), True)
        self.assertEqual(rounding_cross(SPOT, ((5,),), 4).text, "row all - 1-2\ncolumn one - 1-2\ncells 1-2")
        self.assertEqual(first_rounding(SPOT, ((4,),), 3), ((3,),))

    def test_great_numbers(self):
        table = table_cross((1000, 999, 998, 997), (1000, 1000, 997, 997))
        for base in (2, 7, 99, 100):
            filling = first_filling(table)
            found = first_rounding(table, filling, base)
            self.assertIs(is_rounding(table, filling, base, found), True)
        side = great_side("abcd", (0, 4000), (0, 4000), (0, 4000))
        cross = Cross(side, side, (((0, 4000),) * 4,) * 4)
        filling = ((123, 77, 0, 250),) * 3 + ((5, 250, 333, 1),)
        found = first_rounding(cross, filling, 10)
        self.assertTrue(adds_up(side, row_sums(filling), row_sums(found), 10))
        self.assertTrue(adds_up(side, column_sums(filling), column_sums(found), 10))

    def test_by_name(self):
        self.assertEqual(rounding_cross(cross=SPOT, filling=((4,),), base=2).text, "row all - 2\ncolumn one - 2\ncells 2")
        self.assertIs(is_rounding(cross=SHEET, filling=NUMBERS, base=5, value=((5, 0), (0, 5))), True)
        self.assertEqual(first_rounding(cross=SHEET, filling=NUMBERS, base=5), ((0, 5), (0, 0)))
        self.assertEqual(either_way_cells(cross=SHEET, filling=NUMBERS, base=3), ((0, 0), (1, 0)))


class Wrong(unittest.TestCase):
    CALLS = (rounding_cross, first_rounding, either_way_cells,
             lambda cross, filling, base: is_rounding(cross, filling, base, None))

    def test_what_is_no_rounding(self):
        good = ((5, 0), (0, 5))
        self.assertIs(is_rounding(SHEET, NUMBERS, 5, good), True)
        for value in STRANGE + (list(good), ([5, 0], [0, 5]), good[:1], good + ((0, 0),), ((5, 0), (0,)),
                                ((5, 0), (0, True)), ((5, 0), (0, None)), ((5, 0), (0, 4)), ((5, 0), (0, 0)),
                                ((5, 5), (0, 5)), ((5, 0), (5, 5)), ((5, 0), (0, -5)), ((5, 0), (0, 10))):
            self.assertIs(is_rounding(SHEET, NUMBERS, 5, value), False)
            self.assertIs(is_rounding(SHEET, NUMBERS, 5, (value, (0, 5))), False)
            self.assertIs(is_rounding(SHEET, NUMBERS, 5, ((5, 0), (0, value))), False)

    def test_wrong_arguments(self):
        for call in self.CALLS:
            for value in STRANGE + (SHEET.text, SHEET.rows):
                with self.assertRaises(NotACross) as caught:
                    call(value, None, None)
                self.assertIs(caught.exception.given, value)
            for value in STRANGE + (((2, 3), (1, 2)), [[2, 3], [1, 3]], ((2, 3),)):
                for cross in (SHEET, CROWDED, HALL):
                    with self.assertRaises(InvalidFilling) as caught:
                        call(cross, value, None)
                    self.assertIs(caught.exception.given, value)
            for value in STRANGE + (0, 1, 101, "5", (5,)):
                with self.assertRaises(InvalidNumber) as caught:
                    call(SHEET, NUMBERS, value)
                self.assertIs(caught.exception.given, value)


if __name__ == "__main__":
    unittest.main()
