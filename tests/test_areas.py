"""Areas ([7])."""

import unittest

from support import ALONE, LAND, STRANGE, AlwaysEqual, NeverAsked
from toldcounts.areas import Areas
from toldcounts.errors import InvalidLines, InvalidStretch, InvalidText, UnknownName

WHOLE = ("all", "", (0, 9))
TEN = (WHOLE,) + tuple((name, "all", (0, 4000)) for name in "abcdefghi")
NO_LINES = STRANGE + ((), ("b",), ("b", "all"), ("b", "all", (0, 1), 2), ["b", "all", (0, 1)],
                      ("", "all", (0, 1)), ("B", "all", (0, 1)), ("b1", "all", (0, 1)), ("abcdefghi", "all", (0, 1)),
                      ("b ", "all", (0, 1)), ("b\n", "all", (0, 1)), (b"b", "all", (0, 1)), (None, "all", (0, 1)),
                      ("all", "all", (0, 1)), ("b", "b", (0, 1)), ("b", "c", (0, 1)),
                      ("b", None, (0, 1)), ("b", "-", (0, 1)), ("b", ("all",), (0, 1)), ("b", AlwaysEqual(), (0, 1)),
                      ("b", NeverAsked(), (0, 1)), (AlwaysEqual(), "all", (0, 1)), (NeverAsked(), "all", (0, 1)),
                      ("b", "all", (1, 0)), ("b", "all", [0, 1]), ("b", "all", (0, 4001)), ("b", "all", (0, True)),
                      ("b", "all", "0-1"), ("b", "all", None), ([], "all", (0, 1)), ("b", [], (0, 1)))


class Made(unittest.TestCase):
    def test_properties(self):
        lines = (("all", "", (10, 10)), ("north", "all", (3, 8)), ("hills", "north", (0, 3)),
                 ("south", "all", (0, 4000)), ("coast", "north", (5, 5)))
        for areas in (Areas(lines), Areas(lines=lines)):
            self.assertEqual(areas.lines, lines)
            self.assertEqual(areas.names, ("all", "north", "hills", "south", "coast"))
            self.assertEqual(areas.leaves, ("hills", "south", "coast"))
            text = "area all - 10\narea north all 3-8\narea hills north 0-3\narea south all 0-4000\narea coast north 5"
            self.assertEqual(areas.text, text)
            self.assertEqual(str(areas), text)
            self.assertEqual(len(areas), 5)
            self.assertTrue(areas)
            self.assertEqual(areas.inner("all"), ("north", "south"))
            self.assertEqual(areas.inner(name="north"), ("hills", "coast"))
            self.assertEqual(areas.inner("hills"), ())
            self.assertEqual(areas.stretch("coast"), (5, 5))
            self.assertEqual(areas.stretch(name="all"), (10, 10))

    def test_a_whole_alone_is_a_leaf(self):
        self.assertEqual((ALONE.leaves, ALONE.names, len(ALONE), ALONE.text), (("all",), ("all",), 1, "area all - 3-5"))

    def test_ten_lines_and_names_of_eight_letters(self):
        self.assertEqual(len(Areas(TEN)), 10)
        self.assertEqual(Areas((("abcdefgh", "", (0, 0)), ("a", "abcdefgh", (0, 0)))).leaves, ("a",))

    def test_what_is_no_tuple_or_empty(self):
        for value in STRANGE:
            if not isinstance(value, tuple):
                self.refuse(value, None)
        self.refuse((), None)
        self.refuse(list(TEN), None)

    def test_the_first_line_that_is_none(self):
        for line in NO_LINES:
            self.refuse((WHOLE, line), 1)
            self.refuse((WHOLE, ("z", "all", (0, 0)), line, line), 2)
            self.refuse((WHOLE, ("z", "all", (0, 0)), line, ("d", "no", (0, 0))), 2)
            self.refuse((line, ("a", "b", (0, 1))), 0)
        self.refuse((WHOLE, ("b", "", (0, 1))), 1)
        for line in (("b", "all", (0, 1)), ("b", "-", (0, 1)), ("b", " ", (0, 1)), ("b", "b", (0, 1))):
            self.refuse((line,), 0)

    def test_the_eleventh_line(self):
        self.refuse(TEN + (("j", "all", (0, 1)),), 10)
        self.refuse(TEN + (None, None), 10)
        self.refuse(TEN[:9] + (None, None, None), 9)

    def refuse(self, lines, index):
        for call in (lambda: Areas(lines), lambda: Areas(lines=lines)):
            with self.assertRaises(InvalidLines) as caught:
                call()
            self.assertEqual(caught.exception.index, index)

    def test_objects_do_not_change(self):
        for name in ("lines", "names", "leaves", "text"):
            with self.assertRaises(AttributeError):
                setattr(LAND, name, ())


class Told(unittest.TestCase):
    def test_there_and_back(self):
        for areas in (LAND, ALONE, Areas(TEN), Areas(TEN[:1])):
            self.assertEqual(Areas.told(areas.text), areas)
            self.assertEqual(Areas.told(text=areas.text).lines, areas.lines)

    def test_texts_that_are_none(self):
        good = ALONE.changed("all", (3, 8)).text + "\narea north all 3-8"
        self.assertEqual(len(Areas.told(good)), 2)
        for text in (good + "\n", "\n" + good, good + " ", " " + good, good.replace("area", "row"),
                     good.replace("area", "Area"), good.replace(" - ", "  "), good.replace(" - ", " "),
                     good.replace("- 3-8", "- 03-8"), good.replace("- 3-8", "- 3-08"), good.replace("- 3-8", "- 3-3"),
                     good.replace("- 3-8", "- 8-3"), good.replace("- 3-8", "- 4001"), good.replace(" all ", "  all "),
                     good.replace("north all", "north -"), good.replace("north all", "north al"),
                     good.replace("north all", "all all"), good.replace("north all", "north north"),
                     good.replace("north", "North"), good.replace("north", "n0rth"), good.replace("\n", "\n\n"),
                     good.replace("\n", " "), good.replace("all - 3-8", "all - 3-8 1"), good.replace("3-8", "-"),
                     good.replace("3-8", "3 8"), good.replace("3-8", ""), good.replace("area ", ""),
                     "\n".join(reversed(good.split("\n"))), good + "\n" + good, "", "area", "area all -",
                     "area all - ", "area all all 3", "area all  3", "area - - 3", "area all - 3-8\n"):
            self.refuse(text)
        self.refuse(Areas(TEN).text + "\narea j all 0")
        for at in range(len(good)):
            self.refuse(good[:at] + good[at + 1:], good)
            self.refuse(good[:at] + "!" + good[at + 1:])
            self.refuse(good[:at] + " " + good[at:])
            self.refuse(good[:at] + "\n" + good[at:])

    def refuse(self, text, good=None):
        """Some lots of signs can be left out, and other areas are told: these have that text."""
        try:
            areas = Areas.told(text)
        except InvalidText as error:
            self.assertIs(error.given, text)
        else:
            self.assertIsNotNone(good, text)
            self.assertEqual(areas.text, text)

    def test_values_that_are_no_strings(self):
        for value in STRANGE + (LAND, LAND.lines, LAND.text.encode()):
            with self.assertRaises(InvalidText) as caught:
                Areas.told(value)
            self.assertIs(caught.exception.given, value)


class Changed(unittest.TestCase):
    def test_changed(self):
        for areas in (LAND.changed("north", (4, 4)), LAND.changed(name="north", stretch=(4, 4))):
            told = list(LAND.lines)
            told[1] = ("north", "all", (4, 4))
            self.assertEqual(areas.lines, tuple(told))
        self.assertEqual(LAND.stretch("north"), (0, 9))
        self.assertEqual(LAND.changed("all", (10, 12)), LAND)

    def test_names_that_are_none(self):
        for value in STRANGE + ("east", "All", "al", ("all",), ["all"]):
            for call in (lambda: LAND.stretch(value), lambda: LAND.inner(value), lambda: LAND.inner(name=value),
                         lambda: LAND.changed(value, (0, 1)), lambda: LAND.changed(value, None)):
                with self.assertRaises(UnknownName) as caught:
                    call()
                self.assertIs(caught.exception.given, value)

    def test_stretches_that_are_none(self):
        for value in STRANGE + ((3, 2), [3, 4], "3-4", (0, 4001)):
            with self.assertRaises(InvalidStretch) as caught:
                LAND.changed("all", value)
            self.assertIs(caught.exception.given, value)


class Equal(unittest.TestCase):
    def test_equal_exactly_if_the_texts_are(self):
        self.assertTrue(LAND == Areas(LAND.lines))
        self.assertFalse(LAND != Areas(LAND.lines))
        for other in (ALONE, LAND.changed("all", (10, 11)), Areas(LAND.lines[:4])):
            self.assertFalse(LAND == other)
            self.assertTrue(LAND != other)

    def test_other_values(self):
        for other in STRANGE + (LAND.text, LAND.lines, Areas):
            self.assertIs(LAND == other, False)
            self.assertIs(LAND != other, True)


if __name__ == "__main__":
    unittest.main()
