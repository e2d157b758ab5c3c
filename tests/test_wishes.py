"""Wishes for things ([29])."""

import unittest

from support import CROWDED, FEW, GRID, HALL, LAND, ONES, STRANGE
from support_polls import NINE, refused
from support_things import EMPTY, LONELY, NO_THINGS, number_at, pairs_of_things, places_of, sort_of
from toldcounts.errors import InvalidWish, NotAThing
from toldcounts.wishes import does_hold, is_wish, suits

PAIRS = pairs_of_things(361, 60)
NO_WISHES = STRANGE + ((), ("fits", 1), ("fit",), "fits", ["fits"], ("lone", None), ("lone", 1), ("fewer",), ("fewer", 0),
                       ("fewer", -1), ("fewer", True), ("fewer", "1"), ("fewer", None), ("fewer", 1, 2), ("fewer", (1,)),
                       ("value",), ("value", "coast"), ("value", (3, 5)), ("value", "coast", (5, 3)),
                       ("value", "coast", (3, 4001)), ("value", "coast", [3, 5]), ("value", "coast", 3),
                       ("value", "coast", (3, 5), 1), ("value", "coast", None), ("value", "coast", (True, 2)),
                       ["value", "coast", (3, 5)], (b"fits",), (("fits",),), (None,), ("FITS",), ("values", "coast", (3, 5)))


class Forms(unittest.TestCase):
    def test_what_is_a_wish(self):
        for wish in (("fits",), ("lone",), ("fewer", 1), ("fewer", 10 ** 99), ("value", "coast", (3, 5)),
                     ("value", (0, 0), (0, 4000)), ("value", "", (0, 0))):
            self.assertIs(is_wish(wish), True)
            self.assertIs(is_wish(value=wish), True)
        for place in STRANGE:
            self.assertIs(is_wish(("value", place, (3, 5))), True)

    def test_what_is_none(self):
        for value in NO_WISHES:
            self.assertIs(is_wish(value), False)
            self.assertIs(refused(self, InvalidWish, suits, LAND, value).given, value)
            self.assertIs(refused(self, InvalidWish, does_hold, LAND, value).given, value)

    def test_what_suits(self):
        things = (LAND, HALL, FEW, ONES)
        for thing in things:
            for wish in (("fits",), ("lone",), ("fewer", 7)):
                self.assertIs(suits(thing, wish), True)
            for other in things:
                for place in places_of(other):
                    wish = ("value", place, (0, 4000))
                    self.assertIs(suits(thing, wish), sort_of(other) == sort_of(thing))
            for place in STRANGE + ("wall", (0, 2), (2, 0), 0, 6, (0, 0, 2), (False, 0), [0, 0]):
                wish = ("value", place, (0, 4000))
                self.assertIs(suits(thing=thing, wish=wish), False)
                self.assertIs(refused(self, InvalidWish, does_hold, thing, wish).given, wish)


class Small(unittest.TestCase):
    def test_how_many(self):
        seen = set()
        for thing, data in PAIRS:
            many = len(data)
            self.assertIs(does_hold(thing, ("fits",)), many > 0)
            self.assertIs(does_hold(thing, ("lone",)), many == 1)
            for number in (1, 2, many, many + 1, many + 2, 10 ** 99):
                if number:
                    self.assertIs(does_hold(thing, ("fewer", number)), many < number)
            seen.add((sort_of(thing), min(many, 2)))
        self.assertEqual(len(seen), 12)

    def test_values(self):
        for thing, data in PAIRS:
            for place in places_of(thing):
                numbers = [number_at(thing, each, place) for each in data]
                low, high = (min(numbers), max(numbers)) if numbers else (1, 2)
                for stretch in ((low, high), (0, high), (low, 4000), (low + 1, high), (low, high - 1), (0, 4000), (0, low),
                                (high, high), (high + 1, high + 5)):
                    if stretch[0] <= stretch[1]:
                        right = len(data) > 0 and all(stretch[0] <= number <= stretch[1] for number in numbers)
                        self.assertIs(does_hold(thing, ("value", place, stretch)), right, (thing.text, place, stretch))

    def test_a_thing_without_data(self):
        for thing in (CROWDED, EMPTY):
            self.assertEqual([does_hold(thing, wish) for wish in (("fits",), ("lone",), ("fewer", 1))], [False, False, True])
            self.assertIs(does_hold(thing, ("value", places_of(thing)[0], (0, 4000))), False)
        self.assertEqual([does_hold(LONELY, wish) for wish in (("fits",), ("lone",), ("fewer", 1))], [True, True, False])
        self.assertIs(does_hold(thing=GRID, wish=("fewer", 3)), True)
        self.assertIs(does_hold(GRID, ("fewer", 2)), False)


class Wrong(unittest.TestCase):
    def test_things(self):
        for value in STRANGE + NO_THINGS + (NINE, LAND.text):
            self.assertIs(refused(self, NotAThing, suits, value, None).given, value)
            self.assertIs(refused(self, NotAThing, does_hold, value, None).given, value)


if __name__ == "__main__":
    unittest.main()
