"""The first, the last and the next filling ([3], [12], [13])."""

import unittest

from support import CROWDED, GRID, HALL, SMALL_SIZES, SPOT, STRANGE, all_fillings, crosses_around, great_side, many_crosses
from toldcounts.areas import Areas
from toldcounts.crosses import Cross, table_cross
from toldcounts.errors import InvalidFilling, NotACross
from toldcounts.fillings import is_filling
from toldcounts.firsts import first_filling, last_filling, next_filling

SMALL = crosses_around(101, 200, SMALL_SIZES) + many_crosses(102, 100)


class Small(unittest.TestCase):
    def test_all_fillings(self):
        many = 0
        for cross in SMALL:
            fillings = all_fillings(cross)
            many += len(fillings)
            self.assertEqual(first_filling(cross), (fillings + [None])[0], cross.text)
            self.assertEqual(last_filling(cross), ([None] + fillings)[-1], cross.text)
            for filling, behind in zip(fillings, fillings[1:] + [None]):
                self.assertEqual(next_filling(cross, filling), behind, cross.text)
        self.assertGreater(many, 700)

    def test_going_on_from_the_first_one(self):
        filling, found = first_filling(HALL), []
        while filling is not None:
            found.append(filling)
            filling = next_filling(HALL, filling)
        self.assertEqual(found, all_fillings(HALL))
        self.assertEqual(len(found), 15)


class Edges(unittest.TestCase):
    def test_one_cell(self):
        self.assertEqual((first_filling(SPOT), last_filling(SPOT)), (((4,),), ((5,),)))
        self.assertEqual((next_filling(SPOT, ((4,),)), next_filling(SPOT, ((5,),))), (((5,),), None))

    def test_no_data(self):
        self.assertIsNone(first_filling(CROWDED))
        self.assertIsNone(last_filling(CROWDED))

    def test_great_numbers(self):
        table = table_cross((1000, 700, 300, 1), (1, 400, 600, 1000))
        first = ((0, 0, 0, 1000), (0, 100, 600, 0), (0, 300, 0, 0), (1, 0, 0, 0))
        self.assertEqual(first_filling(table), first)
        last = ((1, 400, 599, 0), (0, 0, 1, 699), (0, 0, 0, 300), (0, 0, 0, 1))
        self.assertEqual(last_filling(table), last)
        behind = ((0, 0, 0, 1000), (0, 100, 600, 0), (0, 300, 0, 0), (1, 0, 0, 0))
        self.assertEqual(next_filling(table, behind), ((0, 0, 0, 1000), (0, 100, 600, 0), (1, 299, 0, 0), (0, 1, 0, 0)))
        self.assertIsNone(next_filling(table, last))

    def test_eight_lines_a_side(self):
        side = great_side("abcd", (0, 4000), (500, 2500), (0, 1500))
        cells = tuple(tuple((10, 1000 + 10 * row + at) for at in range(4)) for row in range(4))
        cross = Cross(side, side, cells)
        first, last = first_filling(cross), last_filling(cross)
        self.assertTrue(is_filling(cross, first) and is_filling(cross, last))
        self.assertEqual((first[0][0], last[0][0]), (10, 1000))
        behind = next_filling(cross, first)
        self.assertTrue(is_filling(cross, behind) and behind > first)
        self.assertIsNone(next_filling(cross, last))
        free = Areas((("all", "", (0, 4000)),))
        line = Cross(free, free, (((0, 4000),),))
        self.assertEqual((first_filling(line), last_filling(line)), (((0,),), ((4000,),)))
        self.assertEqual((next_filling(line, ((3999,),)), next_filling(line, ((4000,),))), (((4000,),), None))

    def test_by_name(self):
        self.assertEqual(first_filling(cross=GRID), ((0, 3), (1, 1)))
        self.assertEqual(last_filling(cross=GRID), ((1, 2), (0, 2)))
        self.assertEqual(next_filling(cross=GRID, filling=((0, 3), (1, 1))), ((1, 2), (0, 2)))


class Wrong(unittest.TestCase):
    def test_fillings_that_are_none(self):
        for value in STRANGE + (((1, 2), (0, 0)), ((3, 1), (1, 0)), [[1, 2], [1, 0]], ((1, 2), [1, 0]), ((1, 2),),
                                ((1, 2), (1, False)), ((1, 2), (True, 0)), ((1, 2, 0), (1, 0, 0))):
            with self.assertRaises(InvalidFilling) as caught:
                next_filling(HALL, value)
            self.assertIs(caught.exception.given, value)
        for value in (((2, 2), (1, 1)), ((4, 4), (1, 0)), None):
            with self.assertRaises(InvalidFilling) as caught:
                next_filling(CROWDED, value)
            self.assertIs(caught.exception.given, value)

    def test_crosses_that_are_none(self):
        for call in (first_filling, last_filling, lambda value: next_filling(value, None)):
            for value in STRANGE + (HALL.text, HALL.rows):
                with self.assertRaises(NotACross) as caught:
                    call(value)
                self.assertIs(caught.exception.given, value)


if __name__ == "__main__":
    unittest.main()
