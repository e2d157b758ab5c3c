"""Roundings of counts ([11])."""

import itertools
import unittest

from support import ALONE, SEEN, STRANGE, TOWN, all_counts, many_areas
from toldcounts.arearoundings import (area_roundings_number, either_way_areas, first_area_rounding, is_area_rounding,
                                      least_distance, nearest_area_rounding)
from toldcounts.areas import Areas

SMALL = [areas for areas in many_areas(41, 150, most_lines=7, most_leaves=5, most=7) if all_counts(areas)]


def next_to(number, base):
    return sorted({number // base * base, -(-number // base) * base})


def all_roundings(areas, count, base):
    """All roundings, by trying both multiples for each area."""
    found = []
    for value in itertools.product(*[next_to(number, base) for number in count]):
        told = dict(zip(areas.names, value))
        inner = {name: [told[part] for part in areas.inner(name)] for name in areas.names}
        if all(not inner[name] or sum(inner[name]) == told[name] for name in areas.names):
            found.append(value)
    return sorted(found)


def distance(areas, count, rounding):
    return sum(abs(k - n) for name, n, k in zip(areas.names, count, rounding) if name in areas.leaves)


class Small(unittest.TestCase):
    def cases(self):
        for at, areas in enumerate(SMALL):
            counts = all_counts(areas)
            for base in (2, 3, 5, 10):
                yield areas, counts[(at + base) % len(counts)], base

    def test_all_roundings(self):
        for areas, count, base in self.cases():
            told = all_roundings(areas, count, base)
            self.assertEqual(first_area_rounding(areas, count, base), told[0], areas.text)
            self.assertEqual(area_roundings_number(areas, count, base), len(told))
            either = tuple(name for at, name in enumerate(areas.names)
                           if min(found[at] for found in told) < count[at] < max(found[at] for found in told))
            self.assertEqual(either_way_areas(areas, count, base), either)
            least = min(distance(areas, count, found) for found in told)
            self.assertEqual(least_distance(areas, count, base), least)
            nearest = [found for found in told if distance(areas, count, found) == least][0]
            self.assertEqual(nearest_area_rounding(areas, count, base), nearest)

    def test_is_area_rounding_for_all_multiples_around(self):
        yes = 0
        for areas, count, base in self.cases():
            if len(areas) > 4:
                continue
            told = all_roundings(areas, count, base)
            tried = [range(-base, number + 2 * base + 1, base) for number in count]
            for value in itertools.product(*[list(numbers)[-5:] for numbers in tried]):
                yes += value in told
                self.assertIs(is_area_rounding(areas, count, base, value), value in told, (areas.text, value))
        self.assertGreater(yes, 100)


class Edges(unittest.TestCase):
    def test_values_that_are_no_roundings(self):
        good = (20, 5, 10, 5)
        self.assertIs(is_area_rounding(TOWN, SEEN, 5, good), True)
        for value in STRANGE + (list(good), good[:3], good + (0,), (20, 5, 10, 4), (21, 6, 10, 5), (20, 10, 10, 0),
                                (20, 5, 5, 10), (25, 10, 10, 5), (15, 5, 5, 5), (20, "5", 10, 5), (20, None, 10, 5),
                                (20, -5, 20, 5), SEEN, (20, 5, 15, 0)):
            told = isinstance(value, tuple) and len(value) == 4 and value == (20, 10, 10, 0)
            self.assertIs(is_area_rounding(TOWN, SEEN, 5, value), told)
        zero = (0, 0, 0, 0)
        self.assertIs(is_area_rounding(TOWN, zero, 5, zero), True)
        self.assertIs(is_area_rounding(TOWN, zero, 5, (False, 0, 0, 0)), False)

    def test_bases_2_and_100(self):
        self.assertEqual(first_area_rounding(TOWN, SEEN, 2), (20, 6, 10, 4))
        self.assertEqual(area_roundings_number(TOWN, SEEN, 2), 2)
        self.assertEqual(either_way_areas(TOWN, SEEN, 2), ("east", "west"))
        self.assertEqual(first_area_rounding(TOWN, SEEN, 100), (0, 0, 0, 0))
        self.assertEqual(area_roundings_number(TOWN, SEEN, 100), 4)
        self.assertEqual(least_distance(TOWN, SEEN, 100), 20)

    def test_multiples_already(self):
        count = (20, 10, 10, 0)
        for base in (2, 5, 10):
            self.assertEqual(first_area_rounding(TOWN, count, base), count)
            self.assertEqual(area_roundings_number(TOWN, count, base), 1)
            self.assertEqual(either_way_areas(TOWN, count, base), ())
            self.assertEqual(least_distance(TOWN, count, base), 0)
            self.assertEqual(nearest_area_rounding(TOWN, count, base), count)

    def test_a_rounding_need_not_lie_in_the_told_stretches(self):
        areas = Areas((("all", "", (7, 7)), ("a", "all", (3, 3)), ("b", "all", (4, 4))))
        self.assertEqual(first_area_rounding(areas, (7, 3, 4), 5), (5, 0, 5))
        self.assertIs(is_area_rounding(areas, (7, 3, 4), 5, (10, 5, 5)), True)
        great = Areas((("all", "", (0, 4000)),))
        self.assertEqual(area_roundings_number(great, (3999,), 97), 2)
        self.assertIs(is_area_rounding(great, (3999,), 97, (4074,)), True)
        self.assertEqual(least_distance(great, (3999,), 97), 22)

    def test_nine_leaves(self):
        areas = Areas((("all", "", (0, 4000)),) + tuple((name, "all", (0, 4000)) for name in "abcdefghi"))
        count = (45, 1, 2, 3, 4, 5, 6, 7, 8, 9)
        self.assertEqual(area_roundings_number(areas, count, 10), 126 + 126)
        self.assertEqual(first_area_rounding(areas, count, 10), (40,) + (0,) * 5 + (10,) * 4)
        self.assertEqual(least_distance(areas, count, 10), 25)
        self.assertEqual(nearest_area_rounding(areas, count, 10), (40,) + (0,) * 5 + (10,) * 4)

    def test_by_name(self):
        told = {"areas": ALONE, "count": (4,), "base": 3}
        self.assertEqual(first_area_rounding(**told), (3,))
        self.assertEqual(area_roundings_number(**told), 2)
        self.assertEqual(either_way_areas(**told), ("all",))
        self.assertEqual(least_distance(**told), 1)
        self.assertEqual(nearest_area_rounding(**told), (3,))
        self.assertIs(is_area_rounding(value=(6,), **told), True)


if __name__ == "__main__":
    unittest.main()
