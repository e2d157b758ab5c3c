"""Counts of areas, and bars ([7], [8])."""

import itertools
import unittest

from support import ALONE, LAND, POOR, RICH, STRANGE, TOWN, all_counts, many_areas
from toldcounts.areacounts import area_bar, count_by_leaves, first_count, is_area_bar, is_count, last_count
from toldcounts.areas import Areas

SMALL = many_areas(1, 400)


def around(areas, name):
    """The names of all areas in which this one lies."""
    parent = dict(line[:2] for line in areas.lines)[name]
    return [parent, *around(areas, parent)] if parent else []


def is_bar(areas, side, name, parts):
    """What [8] says of a bar, word by word, of a side, a name and an ascending tuple of names."""
    if not all(name in around(areas, part) and not set(parts) & set(around(areas, part)) for part in parts):
        return False
    if side == "more":
        return sum(areas.stretch(part)[0] for part in parts) > areas.stretch(name)[1]
    leaves = [leaf for leaf in areas.leaves if name in around(areas, leaf)]
    if not leaves or not all(set(parts) & {leaf, *around(areas, leaf)} for leaf in leaves):
        return False
    return sum(areas.stretch(part)[1] for part in parts) < areas.stretch(name)[0]


class Counts(unittest.TestCase):
    def test_is_count_for_all_small_tuples(self):
        for areas in many_areas(2, 40, most_lines=4, most=3):
            counts = set(all_counts(areas))
            for value in itertools.product(range(-1, 5), repeat=len(areas)):
                self.assertEqual(is_count(areas, value), value in counts, (areas.text, value))

    def test_what_is_no_count(self):
        good = (11, 7, 4, 5, 2)
        self.assertIs(is_count(LAND, good), True)
        self.assertIs(is_count(areas=LAND, value=good), True)
        for value in STRANGE + (list(good), good[:4], good + (0,), (11, 7, 4, 5, True), (11, 7, 4, 5, None), (),
                                (11, 7, 4, 5, "2"), (11, 7, 5, 5, 2), (10, 7, 4, 5, 2), (11, 7, 4, 6, 1),
                                (12, 7, 5, 5, 2), (11, 7, 4, 5, -1), "11 7 4 5 2"):
            self.assertIs(is_count(LAND, value), False)
        self.assertTrue(is_count(ALONE.changed("all", (0, 1)), (1,)))
        self.assertFalse(is_count(ALONE.changed("all", (0, 1)), (True,)))

    def test_first_and_last_count(self):
        for areas in SMALL:
            counts = all_counts(areas) or [None]
            self.assertEqual((first_count(areas), last_count(areas)), (counts[0], counts[-1]), areas.text)
        self.assertEqual((first_count(areas=ALONE), last_count(areas=ALONE)), ((3,), (5,)))
        self.assertEqual((first_count(RICH), last_count(RICH), first_count(POOR)), (None, None, None))

    def test_ends_of_numbers(self):
        great = Areas((("all", "", (4000, 4000)), ("a", "all", (0, 4000)), ("b", "all", (0, 4000))))
        self.assertEqual(first_count(great), (4000, 0, 4000))
        self.assertEqual(last_count(great), (4000, 4000, 0))
        self.assertEqual(last_count(great.changed("all", (0, 0))), (0, 0, 0))
        self.assertTrue(is_count(great, (4000, 1, 3999)))
        self.assertEqual(count_by_leaves(great.changed("all", (0, 4000)), (2001, 2000)), None)
        self.assertEqual(count_by_leaves(great, (4000, 10 ** 60)), None)

    def test_count_by_leaves_for_all_small_numbers(self):
        for areas in many_areas(3, 60, most_leaves=3):
            places = [areas.names.index(name) for name in areas.leaves]
            counts = {tuple(count[at] for at in places): count for count in all_counts(areas)}
            for numbers in itertools.product(range(6), repeat=len(places)):
                self.assertEqual(count_by_leaves(areas, numbers), counts.get(numbers), areas.text)
        self.assertEqual(count_by_leaves(areas=LAND, numbers=(3, 5, 3)), (11, 8, 3, 5, 3))


class Bars(unittest.TestCase):
    def test_a_bar_exactly_where_there_is_no_count(self):
        sides = {"more": 0, "less": 0}
        for areas in SMALL:
            bar = area_bar(areas)
            self.assertEqual(bar is None, bool(all_counts(areas)), areas.text)
            if bar is not None:
                sides[bar[0]] += 1
                self.assertIs(is_area_bar(areas, bar), True, (areas.text, bar))
                self.assertTrue(is_bar(areas, *bar), (areas.text, bar))
        self.assertGreater(min(sides.values()), 20)
        self.assertIsNone(area_bar(areas=ALONE))

    def test_bars_by_one(self):
        poor = LAND.changed("all", (13, 20))
        self.assertIsNone(area_bar(poor.changed("all", (12, 20))))
        self.assertEqual(area_bar(poor), ("less", "all", ("coast", "hills", "south")))
        parts = ("coast", "hills")
        for high, bar in ((8, False), (7, True), (6, True)):
            rich = LAND.changed("hills", (6, 9)).changed("all", (0, high))
            self.assertIs(is_area_bar(rich, ("more", "all", parts)), bar)
            self.assertEqual(area_bar(rich) is not None, bar)
        for low, bar in ((12, False), (13, True), (14, True)):
            poor = LAND.changed("all", (low, 20))
            self.assertIs(is_area_bar(areas=poor, value=("less", "all", ("coast", "hills", "south"))), bar)

    def test_all_names_and_parts_of_small_areas(self):
        bars = 0
        for areas in many_areas(4, 150, most_lines=5):
            for many in range(4):
                for parts in itertools.combinations(sorted(areas.names), many):
                    for side, name in itertools.product(("more", "less"), areas.names):
                        value = (side, name, parts)
                        right = is_bar(areas, *value)
                        bars += right
                        self.assertIs(is_area_bar(areas, value), right, (areas.text, value))
        self.assertGreater(bars, 40)

    def test_a_leaf_has_no_bar_of_either_side(self):
        areas = Areas((("all", "", (1, 4)), ("a", "all", (1, 4))))
        self.assertFalse(is_area_bar(areas, ("less", "a", ())))
        self.assertFalse(is_area_bar(ALONE, ("less", "all", ())))
        self.assertFalse(is_area_bar(ALONE, ("more", "all", ())))
        self.assertFalse(is_area_bar(ALONE, ("more", "all", ("all",))))
        self.assertTrue(is_area_bar(areas.changed("all", (0, 0)), ("more", "all", ("a",))))

    def test_what_is_no_bar(self):
        good = ("less", "all", ("coast", "hills", "south"))
        self.assertIs(is_area_bar(POOR, good), True)
        for value in STRANGE + (list(good), good[:2], good + (1,), ("LESS",) + good[1:], ("", "all", good[2]),
                                ("more",) + good[1:], ("less", "north", good[2]), ("less", "east", good[2]),
                                ("less", "all", list(good[2])), ("less", "all", ("hills", "coast", "south")),
                                ("less", "all", ("coast", "coast", "hills", "south")), ("less", "all", ()),
                                ("less", "all", ("coast", "south")), ("less", "all", ("coast", "hills", "xx")),
                                ("less", "all", ("coast", "hills", "north", "south")), ("less", "all", ("all",)),
                                ("less", "all", ("coast", "hills", None)), ("less", "all", "south")):
            self.assertIs(is_area_bar(POOR, value), False)
        for value in STRANGE:
            self.assertIs(is_area_bar(POOR, (value,) + good[1:]), False)
            self.assertIs(is_area_bar(POOR, ("less", value, good[2])), False)
            self.assertIs(is_area_bar(POOR, ("less", "all", value)), False)
            self.assertIs(is_area_bar(POOR, ("less", "all", good[2] + (value,))), False)

    def test_a_bar_high_up_and_one_deep_down(self):
        deep = Areas((("all", "", (0, 9)), ("b", "all", (0, 9)), ("c", "b", (0, 9)), ("d", "c", (0, 9)),
                      ("e", "d", (0, 4)), ("f", "d", (0, 4))))
        self.assertIsNone(area_bar(deep))
        self.assertEqual(area_bar(deep.changed("all", (9, 9))), ("less", "all", ("e", "f")))
        self.assertEqual(area_bar(deep.changed("d", (9, 9))), ("less", "d", ("e", "f")))
        self.assertEqual(area_bar(deep.changed("e", (4, 4)).changed("b", (0, 3)))[:2], ("more", "b"))
        self.assertTrue(is_area_bar(TOWN.changed("all", (298, 300)), ("less", "all", ("east", "mid", "west"))))


if __name__ == "__main__":
    unittest.main()
