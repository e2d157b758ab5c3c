"""Stretches and their texts ([6])."""

import unittest

from support import STRANGE
from toldcounts.errors import InvalidStretch, InvalidText
from toldcounts.stretches import in_both, read_stretch, stretch_text

NO_STRETCHES = STRANGE + ((), (1,), (1, 2, 3), (2, 1), (-1, 2), (0, 4001), (4001, 4001), [1, 2], (1, "2"), ("1", 2),
                          (True, 2), (0, True), (False, 0), (None, 2), (1, None), ((1,), (2,)), "1-2", (1, [2]))
NO_TEXTS = STRANGE + ("", "-", "1-", "-1", "1--2", "1-2-3", "2-1", "3-3", "01", "00", "0-01", "01-2", "+1", " 1",
                      "1 ", "1\n", "1-2\n", "\n1", "1 -2", "1- 2", "4001", "0-4001", "1,2", "1_0", "a", "1-a", "0x1",
                      "1.0", "1e1", "9" * 99, "0-" + "9" * 99, b"1", 1, (1, 2), ("1",), ["1"])


class Stretches(unittest.TestCase):
    def test_texts_of_stretches(self):
        for stretch, text in (((0, 0), "0"), ((0, 1), "0-1"), ((4000, 4000), "4000"), ((0, 4000), "0-4000"),
                              ((10, 99), "10-99"), ((7, 7), "7"), ((3999, 4000), "3999-4000")):
            self.assertEqual(stretch_text(stretch), text)
            self.assertEqual(stretch_text(stretch=stretch), text)
            self.assertEqual(read_stretch(text), stretch)
            self.assertEqual(read_stretch(text=text), stretch)

    def test_all_small_stretches_there_and_back(self):
        for low in range(13):
            for high in range(low, 13):
                self.assertEqual(read_stretch(stretch_text((low, high))), (low, high))

    def test_what_is_no_stretch(self):
        for value in NO_STRETCHES:
            for call in (lambda: stretch_text(value), lambda: in_both(value, (0, 1)), lambda: in_both((0, 1), value),
                         lambda: in_both(value, None), lambda: in_both(stretch=(0, 1), other_stretch=value)):
                with self.assertRaises(InvalidStretch) as caught:
                    call()
                self.assertIs(caught.exception.given, value)

    def test_what_is_no_text(self):
        for value in NO_TEXTS:
            with self.assertRaises(InvalidText) as caught:
                read_stretch(value)
            self.assertIs(caught.exception.given, value)

    def test_in_both_for_all_small_stretches(self):
        stretches = [(low, high) for low in range(5) for high in range(low, 5)]
        for one in stretches:
            for other in stretches:
                both = [k for k in range(5) if one[0] <= k <= one[1] and other[0] <= k <= other[1]]
                self.assertEqual(in_both(one, other), (both[0], both[-1]) if both else None)
        self.assertEqual(in_both(other_stretch=(0, 9), stretch=(4000, 4000)), None)


if __name__ == "__main__":
    unittest.main()
