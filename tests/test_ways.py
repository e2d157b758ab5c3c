"""Steps and ways between fillings, and corners ([13] to [15])."""

import itertools
import random
import unittest

from support import (CROWDED, GRID, HALL, SMALL_SIZES, SPOT, STRANGE, all_fillings, crosses_around, great_side,
                     many_crosses)
from toldcounts.areas import Areas
from toldcounts.crosses import Cross, table_cross
from toldcounts.errors import InvalidFilling, NotACross
from toldcounts.fillings import a_filling, is_filling
from toldcounts.firsts import first_filling, last_filling
from toldcounts.ways import a_corner, free_step, is_corner, is_step, is_way, way

SMALL = crosses_around(121, 120, SMALL_SIZES) + crosses_around(122, 40, ((2, 2), (1, 3)), most=3, spread=2)
ONE, TWO = ((0, 3), (1, 1)), ((1, 2), (0, 2))
STEP = (((0, 0), (1, 1)), ((0, 1), (1, 0)))


def done(filling, step, times):
    """The table behind the step done so often."""
    table = {(row, column): number for row, numbers in enumerate(filling) for column, number in enumerate(numbers)}
    for cells, sign in zip(step, (1, -1)):
        for cell in cells:
            table[cell] += sign * times
    wide = len(filling[0])
    return tuple(tuple(table[row, column] for column in range(wide)) for row in range(len(filling)))


def steps_of(cross):
    """All steps with cells of the cross, by the definition."""
    cells = list(itertools.product(range(len(cross.cells)), range(len(cross.cells[0]))))
    lots = [some for many in range(len(cells) + 1) for some in itertools.combinations(cells, many)
            if len({row for row, _ in some}) == len({column for _, column in some}) == many]
    return [(more, less) for more in lots for less in lots if (more or less) and not set(more) & set(less)]


def in_the_middle(fillings):
    """Those that lie in the middle of two others."""
    found = set()
    for one, other in itertools.combinations(fillings, 2):
        table = [[(a + b) / 2 for a, b in zip(*rows)] for rows in zip(one, other)]
        found.add(tuple(tuple(row) for row in table))
    return [filling for filling in fillings if filling in found]


class Small(unittest.TestCase):
    def test_ways(self):
        ways, chance = 0, random.Random(5)
        for cross in SMALL:
            fillings = all_fillings(cross)
            for one, other in itertools.product(chance.sample(fillings, min(8, len(fillings))), repeat=2):
                found = way(cross, one, other)
                ways += 1
                self.assertEqual(found == (), one == other)
                self.assertIs(is_way(cross, one, other, found), True, (cross.text, one, other))
                self.assertIs(is_way(cross, other, one, found), one == other)
                self.walk(cross, fillings, one, other, found)
        self.assertGreater(ways, 2000)

    def walk(self, cross, fillings, one, other, found):
        now = one
        more = {cell for (cells, _), _ in found for cell in cells}
        less = {cell for (_, cells), _ in found for cell in cells}
        self.assertFalse(more & less)
        for step, times in found:
            self.assertIs(is_step(cross, step), True)
            self.assertGreaterEqual(times, 1)
            for _ in range(times):
                now = done(now, step, 1)
                self.assertIn(now, fillings)
        self.assertEqual(now, other)

    def test_corners(self):
        corners, others = 0, 0
        for cross in SMALL:
            fillings = all_fillings(cross)
            middle = in_the_middle(fillings)
            steps = steps_of(cross)
            for filling in fillings:
                step = free_step(cross, filling)
                self.assertIs(is_corner(cross, filling), filling not in middle, (cross.text, filling))
                either = [each for each in steps if done(filling, each, 1) in fillings
                          and done(filling, each, -1) in fillings]
                self.assertEqual(step is None, not either)
                self.assertTrue(step is None or step in either)
                corners += step is None
                others += step is not None
            self.assertIn(a_corner(cross), [filling for filling in fillings if filling not in middle])
        self.assertGreater(min(corners, others), 300)
        for cross in many_crosses(123, 60):
            if not all_fillings(cross):
                self.assertIsNone(a_corner(cross))

    def test_steps(self):
        for cross in (HALL, SPOT, table_cross((1, 1, 1), (1, 2)), table_cross((3,), (1, 1, 1))):
            cells = list(itertools.product(range(len(cross.cells)), range(len(cross.cells[0]))))
            steps = steps_of(cross)
            lots = [some for many in range(4) for some in itertools.product(cells, repeat=many)]
            for more in lots:
                for less in lots[:40]:
                    self.assertIs(is_step(cross, (more, less)), (more, less) in steps)

    def test_is_way_for_all_short_ways(self):
        steps = steps_of(HALL)
        fillings = all_fillings(HALL)
        right = 0
        for one, other in itertools.product(fillings[:3], fillings):
            for pairs in itertools.chain(itertools.product(itertools.product(steps, (1, 2)), repeat=1),
                                         itertools.product(itertools.product(steps[:14], (1,)), repeat=2)):
                fits, now = True, one
                for step, times in pairs:
                    for _ in range(times):
                        now = done(now, step, 1)
                        fits = fits and now in fillings
                more = {cell for (cells, _), _ in pairs for cell in cells}
                fits = fits and now == other and not more & {cell for (_, cells), _ in pairs for cell in cells}
                right += fits
                self.assertIs(is_way(HALL, one, other, tuple(pairs)), fits)
        self.assertGreater(right, 15)


class Edges(unittest.TestCase):
    def test_one_and_the_same_filling(self):
        for filling in all_fillings(HALL):
            self.assertEqual(way(HALL, filling, filling), ())
            self.assertIs(is_way(HALL, filling, filling, ()), True)
        self.assertIs(is_way(GRID, ONE, TWO, ()), False)

    def test_one_cell(self):
        up = (((((0, 0),), ()), 1),)
        self.assertEqual(way(SPOT, ((4,),), ((5,),)), up)
        self.assertEqual(way(SPOT, ((5,),), ((4,),)), ((((), ((0, 0),)), 1),))
        self.assertIs(is_way(SPOT, ((4,),), ((5,),), up), True)
        self.assertIs(is_way(SPOT, ((4,),), ((5,),), up + up), False)
        self.assertEqual([is_corner(SPOT, ((number,),)) for number in (4, 5)], [True, True])
        wide = SPOT.changed(("row", "all"), (3, 6)).changed(("column", "one"), (3, 6))
        self.assertEqual([is_corner(wide, ((number,),)) for number in (3, 4, 5, 6)], [True, False, False, True])
        self.assertIn(free_step(wide, ((4,),)), ((((0, 0),), ()), ((), ((0, 0),))))

    def test_great_numbers(self):
        free = Areas((("all", "", (0, 4000)), ("a", "all", (0, 4000)), ("b", "all", (0, 4000))))
        cross = Cross(free, free, (((0, 4000), (0, 4000)), ((0, 4000), (0, 4000))))
        one, other = ((4000, 0), (0, 0)), ((0, 1), (2, 3997))
        found = way(cross, one, other)
        self.assertTrue(is_way(cross, one, other, found))
        self.assertLessEqual(len(found), 20)
        side = great_side("abcd", (0, 4000), (500, 2500), (0, 1500))
        cells = tuple(tuple((10, 1000 + 10 * row + at) for at in range(4)) for row in range(4))
        cross = Cross(side, side, cells)
        for one, other in itertools.permutations((first_filling(cross), last_filling(cross), a_filling(cross)), 2):
            found = way(cross, one, other)
            self.assertTrue(is_way(cross, one, other, found))
            self.assertFalse(is_way(cross, one, other, found[:-1]))
        self.assertTrue(is_corner(cross, first_filling(cross)))
        table = table_cross((1000, 1000, 1000, 1000), (1000, 1000, 1000, 1000))
        even = ((250,) * 4,) * 4
        self.assertFalse(is_corner(table, even))
        step = free_step(table, even)
        self.assertTrue(is_filling(table, done(even, step, 1)) and is_filling(table, done(even, step, -1)))
        self.assertTrue(is_corner(table, a_corner(table)))
        self.assertTrue(is_way(table, even, a_corner(table), way(table, even, a_corner(table))))

    def test_no_data(self):
        self.assertIsNone(a_corner(CROWDED))

    def test_by_name(self):
        found = ((STEP, 1),)
        self.assertEqual(way(cross=GRID, filling=ONE, other=TWO), found)
        self.assertIs(is_way(cross=GRID, filling=ONE, other=TWO, value=found), True)
        self.assertIs(is_step(cross=GRID, value=STEP), True)
        self.assertIs(is_corner(cross=GRID, filling=ONE), True)
        self.assertIsNone(free_step(cross=GRID, filling=ONE))
        self.assertIn(a_corner(cross=GRID), (ONE, TWO))


class Wrong(unittest.TestCase):
    def test_what_is_no_step(self):
        self.assertIs(is_step(GRID, STEP), True)
        for value in STRANGE + (list(STEP), STEP + ((),), STEP[:1], (STEP[0], list(STEP[1])), (STEP[0], None),
                                (((1, 1), (0, 0)), ()), (((0, 0), (0, 0)), ()), ((), ()), (((0, 0), (0, 1)), ()),
                                ((), ((0, 1), (1, 1))), (((0, 0),), ((0, 0),)), (((0, 2),), ()), (((2, 0),), ()),
                                (((0, True),), ()), (((-1, 0),), ()), ((0, 0), ()), (((0, 0, 0),), ()), (((0,),), ())):
            self.assertIs(is_step(GRID, value), False)
            if not (isinstance(value, tuple) and len(value) == 0):
                self.assertIs(is_step(GRID, (value, ((0, 1),))), False)
                self.assertIs(is_step(GRID, (((0, 1),), value)), False)
            self.assertIs(is_step(GRID, ((value,), ())), False)
            self.assertIs(is_step(GRID, ((), ((0, 0), value))), False)

    def test_what_is_no_way(self):
        good = ((STEP, 1),)
        self.assertIs(is_way(GRID, ONE, TWO, good), True)
        for value in STRANGE + (list(good), ([STEP, 1],), ((STEP, 1, 1),), ((STEP,),), ((STEP, 0),), ((STEP, 2),),
                                ((STEP, True),), ((STEP, -1),), ((STEP, "1"),), good + good,
                                (((((0, 0),), ((0, 1),)), 1), ((((1, 1),), ((1, 0),)), 1)),
                                ((STEP, 1), ((STEP[1], STEP[0]), 1), (STEP, 1)), ((STEP, 10 ** 90),)):
            self.assertIs(is_way(GRID, ONE, TWO, value), False)
            self.assertIs(is_way(GRID, ONE, TWO, (value,)), False)
            self.assertIs(is_way(GRID, ONE, TWO, ((value, 1),)), False)
            self.assertIs(is_way(GRID, ONE, TWO, ((STEP, value),)), False)
        self.assertIs(is_way(GRID, ONE, TWO, STEP), False)
        for value in (((STEP, 1), (STEP, 0)), ((STEP, 0), (STEP, 1)), (((STEP[1], STEP[0]), -1),)):
            self.assertIs(is_way(GRID, ONE, TWO, value), False)
        self.assertIs(is_way(GRID, ONE, ONE, ((STEP, 0),)), False)
        self.assertIs(is_way(GRID, ONE, TWO, (STEP, 1)), False)
        for value in STRANGE:
            if not (isinstance(value, tuple) and len(value) == 0):
                self.assertIs(is_way(GRID, ONE, ONE, value), False)

    def test_a_way_stays_within_the_fillings(self):
        # Both steps lead there, but only in one order over fillings.
        rows = Areas((("all", "", (0, 1)),))
        columns = Areas((("all", "", (0, 9)), ("a", "all", (0, 9)), ("b", "all", (0, 9))))
        cross = Cross(rows, columns, (((0, 9), (0, 9)),))
        less, more = (((), ((0, 0),)), 1), ((((0, 1),), ()), 1)
        self.assertIs(is_way(cross, ((1, 0),), ((0, 1),), (less, more)), True)
        self.assertIs(is_way(cross, ((1, 0),), ((0, 1),), (more, less)), False)
        # No cell may become more and less on one way.
        up, down = ((((0, 0),), ()), 1), (((), ((0, 0),)), 1)
        self.assertIs(is_way(cross, ((0, 0),), ((0, 0),), (up, down)), False)

    def test_fillings_and_crosses_that_are_none(self):
        for value in STRANGE + (((1, 2), (0, 0)), [[1, 2], [0, 2]], ((1, 2),), ((1, 2), (False, 2))):
            for call in (lambda: way(GRID, value, None), lambda: way(GRID, ONE, value), lambda: is_corner(GRID, value),
                         lambda: is_way(GRID, value, None, None), lambda: is_way(GRID, ONE, value, None),
                         lambda: free_step(GRID, value), lambda: is_corner(CROWDED, value)):
                with self.assertRaises(InvalidFilling) as caught:
                    call()
                self.assertIs(caught.exception.given, value)
        for value in STRANGE + (GRID.text, GRID.rows):
            for call in (lambda: way(value, None, None), lambda: is_step(value, None), lambda: a_corner(value),
                         lambda: is_way(value, None, None, None), lambda: is_corner(value, None),
                         lambda: free_step(value, None)):
                with self.assertRaises(NotACross) as caught:
                    call()
                self.assertIs(caught.exception.given, value)


if __name__ == "__main__":
    unittest.main()
