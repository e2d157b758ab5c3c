"""How many counts there are, and their indexes ([7], [9])."""

import itertools
import unittest

from support import ALONE, LAND, POOR, RICH, STRANGE, all_counts, many_areas
from toldcounts.areanumbers import area_numbers, count_at, counts_number, index_of_count
from toldcounts.areas import Areas
from toldcounts.arearanges import area_range
from toldcounts.errors import InvalidIndex, UnknownName

FREE = (0, 4000)
WIDE = Areas((("all", "", FREE),) + tuple((name, "all", FREE) for name in "abcdefghi"))
PAIRS = Areas((("all", "", (100, 3000)), ("a", "all", FREE), ("b", "all", (7, 2900)), ("ax", "a", FREE),
               ("bx", "b", (0, 900)), ("ay", "a", (40, 1000)), ("by", "b", FREE), ("lone", "all", (0, 50))))


def choose(many, few):
    found = 1
    for at in range(few):
        found = found * (many - at) // (at + 1)
    return found


class Small(unittest.TestCase):
    def test_all_counts_there_and_back(self):
        shapes = many_areas(21, 250) + many_areas(22, 60, most_lines=9, most_leaves=4, most=3)
        for areas in shapes:
            counts = all_counts(areas)
            self.assertEqual(counts_number(areas), len(counts), areas.text)
            for at, count in enumerate(counts):
                self.assertEqual(count_at(areas, at), count)
                self.assertEqual(index_of_count(areas, count), at)
            for index in (len(counts), len(counts) + 1):
                with self.assertRaises(InvalidIndex) as caught:
                    count_at(areas, index)
                self.assertEqual(caught.exception.given, index)

    def test_numbers_of_areas(self):
        for areas in many_areas(23, 250) + many_areas(24, 60, most_lines=9, most_leaves=4, most=3):
            counts = all_counts(areas)
            for at, name in enumerate(areas.names):
                numbers = [count[at] for count in counts]
                told = tuple((number, numbers.count(number)) for number in sorted(set(numbers)))
                self.assertEqual(area_numbers(areas, name), told, areas.text)

    def test_where_no_counts_are(self):
        for areas in (POOR, RICH):
            self.assertEqual(counts_number(areas), 0)
            self.assertEqual(area_numbers(areas, "coast"), ())
            for index in STRANGE + (0, 1):
                with self.assertRaises(InvalidIndex) as caught:
                    count_at(areas, index)
                self.assertIs(caught.exception.given, index)
            with self.assertRaises(UnknownName):
                area_numbers(areas, "no")

    def test_indexes_that_are_none(self):
        for index in STRANGE + (10, 11, "0", (0,), -1):
            with self.assertRaises(InvalidIndex) as caught:
                count_at(LAND, index)
            self.assertIs(caught.exception.given, index)

    def test_by_name(self):
        self.assertEqual(counts_number(areas=ALONE), 3)
        self.assertEqual(count_at(index=1, areas=ALONE), (4,))
        self.assertEqual(index_of_count(areas=ALONE, count=(5,)), 2)
        self.assertEqual(area_numbers(areas=ALONE, name="all"), ((3, 1), (4, 1), (5, 1)))


class Great(unittest.TestCase):
    def test_nine_free_leaves(self):
        number = choose(4000 + 9, 9)
        self.assertEqual(counts_number(WIDE), number)
        self.assertEqual(count_at(WIDE, 0), (0,) * 10)
        self.assertEqual(count_at(WIDE, 1), (1,) + (0,) * 8 + (1,))
        self.assertEqual(count_at(WIDE, number - 1), (4000, 4000) + (0,) * 8)
        self.assertEqual(count_at(WIDE, number - 2), (4000, 3999, 1) + (0,) * 7)
        numbers = area_numbers(WIDE, "all")
        self.assertEqual(len(numbers), 4001)
        self.assertEqual(numbers[1234], (1234, choose(1234 + 8, 8)))
        parts = area_numbers(WIDE, "e")
        self.assertEqual((parts[0], parts[-1]), ((0, choose(4000 + 8, 8)), (4000, 1)))
        self.assertEqual(parts[1000], (1000, choose(3000 + 8, 8)))

    def test_there_and_back(self):
        for areas in (WIDE, PAIRS):
            number = counts_number(areas)
            before = None
            for part in range(7):
                index = (number - 1) * part // 6
                count = count_at(areas, index)
                self.assertEqual(index_of_count(areas, count), index)
                self.assertTrue(before is None or before < count)
                before = count
            for index in (number, number + 1, 10 ** 60):
                with self.assertRaises(InvalidIndex):
                    count_at(areas, index)

    def test_neighbours_ascend(self):
        number = counts_number(PAIRS)
        for start in (0, number // 3, number - 30):
            counts = [count_at(PAIRS, index) for index in range(start, start + 5)]
            self.assertEqual(counts, sorted(set(counts)))

    def test_numbers_of_areas_add_up(self):
        number = counts_number(PAIRS)
        for name in PAIRS.names:
            numbers = area_numbers(PAIRS, name)
            self.assertEqual(sum(ways for _, ways in numbers), number)
            self.assertEqual((numbers[0][0], numbers[-1][0]), area_range(PAIRS, name))
            for at in (0, len(numbers) // 3, -1):
                alone = PAIRS.changed(name, (numbers[at][0], numbers[at][0]))
                self.assertEqual(counts_number(alone), numbers[at][1])

    def test_areas_within_areas_on_both_sides(self):
        lines = [("all", "", (900, 1000)), ("a", "all", (10, 500)), ("b", "all", (20, 600))]
        for name, parent in itertools.product("xyz", "ab"):
            lines.append((parent + name, parent, (0, 300)))
        areas = Areas(tuple(lines))

        def ways(low, high):
            found = [0] * 901
            for two in range(601):
                pairs = min(two, 600 - two, 300) + 1
                for more in range(301):
                    found[two + more] += pairs
            return [found[number] if low <= number <= high else 0 for number in range(901)]

        left, right = ways(10, 500), ways(20, 600)
        wholes = {whole: sum(left[k] * right[whole - k] for k in range(max(0, whole - 900), min(whole, 900) + 1))
                  for whole in range(900, 1001)}
        self.assertEqual(area_numbers(areas, "all"), tuple(sorted(wholes.items())))
        self.assertEqual(counts_number(areas), sum(wholes.values()))


if __name__ == "__main__":
    unittest.main()
