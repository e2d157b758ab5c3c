"""Pages: what others work out of hidden cells, and what else must be hidden ([10], [17])."""

import itertools
import unittest

from support import CROWDED, HALL, SMALL_SIZES, SPOT, STRANGE, all_fillings, crosses_around, ends, leaves_in
from toldcounts.crosses import Cross, table_cross
from toldcounts.errors import (InvalidCell, InvalidCells, InvalidFilling, InvalidNumber, InvalidText, NotACross,
                               NotAPage, TooMany)
from toldcounts.fillings import a_filling
from toldcounts.firsts import first_filling, last_filling
from toldcounts.pages import Page, guess, guesses, is_safe, known, least_covers, worked_out

SHEET, NUMBERS = table_cross((5, 4), (3, 6)), ((2, 3), (1, 3))
ALL = ((0, 0), (0, 1), (1, 0), (1, 1))
BLANK, BARE, OPEN = Page(SHEET, NUMBERS, ALL), Page(SHEET, NUMBERS, ALL[:1]), Page(SHEET, NUMBERS, ())


def lots(things):
    """All parts, fewer ones first."""
    return [some for many in range(len(things) + 1) for some in itertools.combinations(sorted(things), many)]


def cells_of(cross):
    return tuple(itertools.product(range(len(cross.cells)), range(len(cross.cells[0]))))


def area_sums(cross, table):
    return [sum(table[row][column] for row, column in cells) for cells in area_cells(cross)]


def area_cells(cross):
    found = []
    for name in cross.rows.names:
        found.append([cell for cell in cells_of(cross) if cell[0] in leaves_in(cross.rows, name)])
    for name in cross.columns.names:
        found.append([cell for cell in cells_of(cross) if cell[1] in leaves_in(cross.columns, name)])
    return found


def not_told_apart(cross, fillings, filling, hidden):
    """The fillings that others can not tell from this one."""
    sums = area_sums(cross, filling)
    shown = [cell for cell in cells_of(cross) if cell not in hidden]
    return [table for table in fillings if area_sums(cross, table) == sums
            and all(table[row][column] == filling[row][column] for row, column in shown)]


def guessed(cross, fillings, filling, hidden):
    """The guess for each cell."""
    tables = not_told_apart(cross, fillings, filling, hidden)
    return {(row, column): ends([table[row][column] for table in tables]) for row, column in cells_of(cross)}


def some_pages(seed, many, sizes, spread=2):
    """Crosses with all their fillings, some of these fillings, and some lots of cells to hide."""
    for at, cross in enumerate(crosses_around(seed, many, sizes, most=2, spread=spread)):
        fillings = all_fillings(cross)
        hidden = lots(cells_of(cross))
        for filling in {fillings[0], fillings[-1], fillings[len(fillings) // 2]}:
            yield cross, fillings, filling, [hidden[(7 * at + 5 * k) % len(hidden)] for k in range(5)] + hidden[-1:]


class Small(unittest.TestCase):
    def test_guesses(self):
        safe, sure = 0, 0
        for cross, fillings, filling, lot in some_pages(131, 60, SMALL_SIZES):
            for hidden in lot:
                page = Page(cross, filling, hidden)
                told = guessed(cross, fillings, filling, hidden)
                self.assertEqual(all_fillings(known(page)), not_told_apart(cross, fillings, filling, hidden))
                self.assertEqual(guesses(page), tuple((cell, told[cell]) for cell in hidden), page.text)
                found = tuple(cell for cell in hidden if told[cell][0] == told[cell][1])
                self.assertEqual(worked_out(page), found)
                sure += len(found)
                for cell in cells_of(cross):
                    self.assertEqual(guess(page, cell), told[cell])
                    for width in (1, 2, 3):
                        right = cell in hidden and told[cell][1] - told[cell][0] >= width
                        safe += right
                        self.assertIs(is_safe(page, cell, width), right)
        self.assertGreater(min(safe, sure), 80)

    def test_least_covers(self):
        found = {}
        for cross, fillings, filling, lot in some_pages(132, 40, ((2, 2), (1, 3))):
            self.check_covers(cross, fillings, filling, lot, found)
        for rows, columns in (((4, 3), (2, 3, 2)), ((5, 2), (2, 2, 3)), ((2, 3, 2), (4, 3))):
            cross = table_cross(rows, columns)
            for cell in cells_of(cross):
                cross = cross.changed(("cell", *cell), (0, 3))
            fillings = all_fillings(cross)
            self.check_covers(cross, fillings, fillings[len(fillings) // 2], [((0, 0),), cells_of(cross)[3:4]] * 2, found)
        self.assertEqual(sorted(found), [0, 1, 2])

    def check_covers(self, cross, fillings, filling, lot, found):
        hides = {hidden: guessed(cross, fillings, filling, hidden) for hidden in lots(cells_of(cross))}
        for hidden, some, width in itertools.product((lot[0], ()), (lot[2], cells_of(cross)[:1], ()), (1, 2)):
            covers = []
            for more in lots([cell for cell in cells_of(cross) if cell not in hidden]):
                now = tuple(sorted(hidden + more))
                wide = [cell in now and hides[now][cell][1] - hides[now][cell][0] >= width for cell in some]
                if all(wide) and not any(set(cover) <= set(more) for cover in covers):
                    covers.append(more)
            page = Page(cross, filling, hidden)
            self.assertEqual(least_covers(page, some, width), tuple(covers), (page.text, some, width))
            found[min(3, len(covers))] = found.get(min(3, len(covers)), 0) + 1


class Pages(unittest.TestCase):
    def test_properties(self):
        self.assertIs(BARE.cross, SHEET)
        self.assertEqual((BARE.filling, BARE.hidden, len(BARE), len(BLANK), len(OPEN)), (NUMBERS, ((0, 0),), 1, 4, 0))
        self.assertEqual(BARE.text, SHEET.text + "\nnumbers 2? 3\nnumbers 1 3")
        self.assertEqual(OPEN.text, SHEET.text + "\nnumbers 2 3\nnumbers 1 3")
        self.assertEqual((str(BARE), str(OPEN)), (BARE.text, OPEN.text))
        self.assertTrue(OPEN)
        self.assertTrue(BLANK)
        for name in ("cross", "filling", "hidden", "text"):
            with self.assertRaises(AttributeError):
                setattr(BARE, name, None)

    def test_equal(self):
        self.assertEqual(Page(SHEET, NUMBERS, ALL[:1]), BARE)
        self.assertFalse(Page(SHEET, NUMBERS, ALL[:1]) != BARE)
        for other in (OPEN, BLANK, Page(SHEET, ((1, 4), (2, 2)), ALL[:1]), BARE.text, BARE.cross, None, 1, NUMBERS,
                      Page(SHEET.changed(("cell", 0, 0), (0, 3)), NUMBERS, ALL[:1])):
            self.assertFalse(BARE == other)
            self.assertTrue(BARE != other)
        for value in STRANGE[:20]:
            self.assertIs(BARE == value, False)

    def test_texts(self):
        pages = [BARE, BLANK, OPEN, Page(SPOT, ((5,),), ((0, 0),)), Page(HALL, ((1, 2), (1, 0)), ALL[1:3])]
        for page in pages:
            self.assertEqual(Page.told(page.text), page)
            self.assertEqual(Page.told(text=page.text).text, page.text)

    def test_texts_that_are_none(self):
        text = BARE.text
        lines = text.split("\n")
        wrong = ["", "\n", "numbers", SHEET.text, text + "\n", "\n" + text, text + " ", " " + text, text.upper(),
                 text.replace("2?", "2??"), text.replace("2?", "?2"), text.replace("2?", "02?"),
                 text.replace("2?", "2 ?"), text.replace("2?", "+2?"), text.replace("2?", "-2?"),
                 text.replace("2?", "?"), text.replace("2?", "1?"), text.replace("2?", "2-2?"),
                 text.replace("1 3", "1  3"), text.replace("1 3", "1"), text.replace("1 3", "1 3 0"),
                 text.replace("1 3", "01 3"), text.replace("numbers", "number"), text.replace("all", "ALL"),
                 text.replace("numbers 2?", "numbers  2?"), text.replace("0-4000", "0-4001"),
                 text.replace("\nnumbers 1 3", ""), text + "\nnumbers 1 3", text + "\nnumbers", "\n".join(lines[1:]),
                 text.replace("1 3", "1 3."), text.replace("numbers 1 3", "cells 1 3")]
        wrong += ["\n".join(lines[:at] + lines[at + 1:]) for at in range(len(lines))]
        wrong += ["\n".join(lines[:at] + [lines[at + 1], lines[at]] + lines[at + 2:]) for at in range(len(lines) - 1)
                  if lines[at] != lines[at + 1]]
        for at in range(len(text)):
            wrong += [text[:at] + "0" + text[at:], text[:at] + text[at + 1:], text[:at] + " " + text[at:]]
        for value in wrong + list(STRANGE):
            with self.assertRaises(InvalidText) as caught:
                found = Page.told(value)
                # Some signs can be left out without the text becoming none.
                if found.text == value:
                    raise InvalidText(value)
            self.assertIs(caught.exception.given, value)

    def test_texts_of_fillings_that_do_not_fit(self):
        for row in ("numbers 3? 3", "numbers 3? 2", "numbers 0 5", "numbers 4001? 3"):
            with self.assertRaises(InvalidText):
                Page.told(BARE.text.replace("numbers 2? 3", row))
        self.assertEqual(Page.told(BARE.text.replace("2? 3\nnumbers 1 3", "3 2\nnumbers 0 4")).filling, ((3, 2), (0, 4)))


class Edges(unittest.TestCase):
    def test_nothing_hidden_and_all_hidden(self):
        self.assertEqual((guesses(OPEN), worked_out(OPEN)), ((), ()))
        self.assertEqual(known(OPEN).cells, (((2, 2), (3, 3)), ((1, 1), (3, 3))))
        self.assertEqual(known(BLANK), SHEET)
        self.assertEqual([guess(OPEN, cell) for cell in ALL], [(2, 2), (3, 3), (1, 1), (3, 3)])
        self.assertFalse(is_safe(OPEN, (0, 0), 1))
        one = Page(SPOT, ((5,),), ((0, 0),))
        self.assertEqual((guesses(one), worked_out(one)), ((((0, 0), (5, 5)),), ((0, 0),)))
        self.assertEqual(known(one).text, "row all - 5\ncolumn one - 5\ncells 0-7")
        self.assertEqual(least_covers(one, ((0, 0),), 1), ())

    def test_areas_are_known(self):
        page = Page(HALL, ((1, 2), (1, 0)), ALL)
        self.assertEqual(known(page).text.split("\n")[:3], ["row all - 4", "row day all 3", "row night all 1"])
        self.assertEqual(known(page).cells, HALL.cells)
        self.assertEqual(guesses(page), (((0, 0), (1, 1)), ((0, 1), (2, 2)), ((1, 0), (1, 1)), ((1, 1), (0, 0))))

    def test_nothing_to_be_covered(self):
        for page in (OPEN, BARE, BLANK):
            self.assertEqual(least_covers(page, (), 1), ((),))
            self.assertEqual(least_covers(page, (), 5000), ((),))
        self.assertEqual(least_covers(BLANK, ALL, 3), ((),))
        self.assertEqual(least_covers(BLANK, ALL, 4), ())
        self.assertEqual(least_covers(OPEN, ((0, 0),), 3), (ALL,))
        self.assertEqual(least_covers(OPEN, ((0, 0), (1, 1)), 3), (ALL,))
        self.assertEqual(least_covers(OPEN, ((0, 0),), 4), ())

    def test_nine_and_ten_cells(self):
        nine = table_cross((500, 600, 700), (600, 400, 800))
        page = Page(nine, first_filling(nine), ((0, 0), (2, 2)))
        covers = least_covers(page, ((0, 0),), 100)
        self.assertEqual(covers[0], ((0, 2), (2, 0)))
        self.assertEqual([len(cover) for cover in covers], sorted(len(cover) for cover in covers))
        self.assertEqual(least_covers(page, (), 1), ((),))
        for cross, many in ((table_cross((5, 5, 5), (4, 4, 4, 3)), 12), (table_cross((1,) * 4, (1,) * 4), 16)):
            page = Page(cross, a_filling(cross), ())
            for some, width in ((((0, 0),), 1), ((), 1), (((2, 2),), 4000)):
                with self.assertRaises(TooMany) as caught:
                    least_covers(page, some, width)
                self.assertEqual(caught.exception.given, many)
            with self.assertRaises(InvalidNumber):
                least_covers(page, (), 0)
            with self.assertRaises(InvalidCells):
                least_covers(page, None, 1)

    def test_great_numbers(self):
        table = table_cross((1000, 1000, 1000, 1000), (1000, 1000, 1000, 1000))
        page = Page(table, last_filling(table), tuple(itertools.product(range(4), repeat=2)))
        self.assertTrue(all(told == (0, 1000) for _, told in guesses(page)))
        self.assertTrue(is_safe(page, (3, 3), 1000))
        self.assertFalse(is_safe(page, (3, 3), 1001))

    def test_by_name(self):
        self.assertEqual(Page(cross=SHEET, filling=NUMBERS, hidden=ALL), BLANK)
        self.assertEqual(known(page=BLANK), SHEET)
        self.assertEqual(guess(page=BARE, cell=(1, 1)), (3, 3))
        self.assertEqual(guesses(page=BARE), (((0, 0), (2, 2)),))
        self.assertEqual(worked_out(page=BARE), ((0, 0),))
        self.assertIs(is_safe(page=BLANK, cell=(0, 0), width=3), True)
        self.assertEqual(least_covers(page=BARE, some=((0, 0),), width=2), (((0, 1), (1, 0), (1, 1)),))


class Wrong(unittest.TestCase):
    def test_what_makes_no_page(self):
        for value in STRANGE + (SHEET.text, SHEET.rows):
            with self.assertRaises(NotACross) as caught:
                Page(value, None, None)
            self.assertIs(caught.exception.given, value)
        for value in STRANGE + (((2, 3), (1, 2)), [[2, 3], [1, 3]], ((2, 3),)):
            for cross in (SHEET, CROWDED):
                with self.assertRaises(InvalidFilling) as caught:
                    Page(cross, value, None)
                self.assertIs(caught.exception.given, value)

    def test_cells_that_are_none(self):
        cases = [((value,), 0) for value in STRANGE] + [((ALL[0], value), 1) for value in STRANGE]
        cases += [(value, None) for value in STRANGE if not isinstance(value, tuple)]
        cases += [(((0, 0), (0, 0)), 1), (((0, 1), (0, 0)), 1), (((0, 0), (0, 2)), 1), (((2, 0),), 0),
                  (((0, 0), (0, 1), (0, 1), 7), 2), (((0, True),), 0), ((0, 0), 0), (list(ALL), None),
                  (((0, 0, 0),), 0), (((0, -1),), 0)]
        for value, index in cases:
            for call in (lambda: Page(SHEET, NUMBERS, value), lambda: least_covers(BARE, value, None)):
                with self.assertRaises(InvalidCells) as caught:
                    call()
                self.assertEqual(caught.exception.index, index)

    def test_pages_cells_and_widths_that_are_none(self):
        for value in STRANGE + (BARE.text, SHEET):
            for call in (known, guesses, worked_out, lambda page: guess(page, None),
                         lambda page: is_safe(page, None, None), lambda page: least_covers(page, None, None)):
                with self.assertRaises(NotAPage) as caught:
                    call(value)
                self.assertIs(caught.exception.given, value)
        for value in STRANGE + ((0, 2), (2, 0), (0,), (0, 0, 0), [0, 0], (0, True), ((0, 0),)):
            for call in (lambda: guess(BARE, value), lambda: is_safe(BARE, value, None)):
                with self.assertRaises(InvalidCell) as caught:
                    call()
                self.assertIs(caught.exception.given, value)
        for value in (0, -1, True, None, "1", (1,), 10 ** 99 * 0, [], -(10 ** 99)):
            for call in (lambda: is_safe(BARE, (0, 0), value), lambda: least_covers(BARE, (), value)):
                with self.assertRaises(InvalidNumber) as caught:
                    call()
                self.assertIs(caught.exception.given, value)


if __name__ == "__main__":
    unittest.main()
