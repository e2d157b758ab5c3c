"""The ranges of areas ([9])."""

import unittest

from support import ALONE, LAND, POOR, RICH, all_counts, ends, many_areas
from toldcounts.arearanges import area_range, area_ranges, needless_lines, tight_areas
from toldcounts.areas import Areas
from toldcounts.errors import NoData, UnknownName

SMALL = many_areas(11, 400)


class Ranges(unittest.TestCase):
    def test_ranges_of_small_areas(self):
        fit = 0
        for areas in SMALL:
            counts = all_counts(areas)
            if not counts:
                continue
            fit += 1
            ranges = tuple(ends(numbers) for numbers in zip(*counts))
            self.assertEqual(area_ranges(areas), ranges, areas.text)
            self.assertEqual(tuple(area_range(areas, name) for name in areas.names), ranges)
            tight = tuple((line[0], line[1], ranges[at]) for at, line in enumerate(areas.lines))
            self.assertEqual(tight_areas(areas).lines, tight)
            self.assertEqual(all_counts(tight_areas(areas)), counts)
        self.assertGreater(fit, 100)

    def test_each_number_between_is_one(self):
        for areas in SMALL[:100]:
            for numbers in zip(*all_counts(areas)):
                self.assertEqual(sorted(set(numbers)), list(range(min(numbers), max(numbers) + 1)))

    def test_by_name(self):
        self.assertEqual(area_range(areas=LAND, name="coast"), (3, 5))
        self.assertEqual(area_ranges(areas=ALONE), ((3, 5),))
        self.assertEqual(tight_areas(areas=ALONE), ALONE)
        self.assertEqual(needless_lines(areas=ALONE), ())

    def test_ends_of_numbers(self):
        great = Areas((("all", "", (3999, 4000)), ("a", "all", (0, 4000)), ("b", "all", (4000, 4000))))
        self.assertEqual(area_ranges(great), ((4000, 4000), (0, 0), (4000, 4000)))

    def test_no_data(self):
        none = 0
        for areas in SMALL + [POOR, RICH]:
            if all_counts(areas):
                continue
            none += 1
            for call in (lambda: area_range(areas, "all"), lambda: area_ranges(areas), lambda: tight_areas(areas)):
                with self.assertRaises(NoData):
                    call()
            with self.assertRaises(UnknownName):
                area_range(areas, "no")
        self.assertGreater(none, 50)


class Needless(unittest.TestCase):
    def test_needless_lines_of_small_areas(self):
        many = {True: 0, False: 0}
        for areas in SMALL:
            counts = all_counts(areas)
            told = []
            for name in areas.names:
                # No number of areas as small as these reaches 50.
                if set(all_counts(areas.changed(name, (0, 50)))) <= set(counts):
                    told.append(name)
            many[bool(counts)] += len(told)
            self.assertEqual(needless_lines(areas), tuple(told), areas.text)
        self.assertGreater(min(many.values()), 20)

    def test_just_needless_and_just_not(self):
        for stretch, needless in (((0, 8), True), ((0, 7), False), ((2, 8), True), ((3, 8), False), ((2, 7), False)):
            areas = Areas((("all", "", stretch), ("a", "all", (1, 4)), ("b", "all", (1, 4))))
            self.assertEqual("all" in needless_lines(areas), needless)
        for stretch, needless in (((1, 4), True), ((1, 3), False), ((2, 4), False), ((0, 9), True)):
            areas = Areas((("all", "", (5, 5)), ("a", "all", stretch), ("b", "all", (1, 4))))
            self.assertEqual("a" in needless_lines(areas), needless)

    def test_the_ends_0_and_4000(self):
        areas = Areas((("all", "", (0, 4000)), ("a", "all", (0, 4000)), ("b", "all", (0, 4000))))
        self.assertEqual(needless_lines(areas), ("all", "a", "b"))
        self.assertEqual(needless_lines(areas.changed("a", (0, 3999))), ("all", "b"))
        self.assertEqual(needless_lines(areas.changed("all", (0, 3999))), ("a", "b"))
        self.assertEqual(needless_lines(ALONE.changed("all", (0, 4000))), ("all",))
        self.assertEqual(needless_lines(ALONE.changed("all", (1, 4000))), ())

    def test_where_no_counts_are_a_line_is_needless_if_there_are_none_without_it(self):
        self.assertEqual(needless_lines(POOR), ("north",))
        self.assertEqual(needless_lines(RICH), ("all", "north", "south"))
        two = Areas((("all", "", (0, 1)), ("a", "all", (0, 9)), ("b", "all", (5, 9)), ("c", "all", (5, 9))))
        self.assertEqual(needless_lines(two), ("a", "b", "c"))


if __name__ == "__main__":
    unittest.main()
