"""Hidden areas ([10])."""

import itertools
import unittest

from support import ALONE, LAND, SEEN, STRANGE, TOWN, all_counts, ends, many_areas
from toldcounts.areapages import area_guess, is_safe_area, least_area_covers, worked_out_areas
from toldcounts.areas import Areas
from toldcounts.errors import InvalidNames

SMALL = [areas for areas in many_areas(31, 120, most_lines=5, most_leaves=3, most=4) if all_counts(areas)]


def parts_of(names):
    """All ascending tuples of some of the names, those with fewer first, those with equally many ascending."""
    names = sorted(names)
    return [some for many in range(len(names) + 1) for some in itertools.combinations(names, many)]


def guesses(areas, count, hidden):
    """The guesses for all areas, from all counts that are as others know."""
    shown = [at for at, name in enumerate(areas.names) if name not in hidden]
    fit = [other for other in all_counts(areas) if all(other[at] == count[at] for at in shown)]
    return dict(zip(areas.names, [ends(numbers) for numbers in zip(*fit)]))


def is_cover(told, areas, hidden, some, width, more):
    both = tuple(sorted((*hidden, *more)))
    return all(name in both and told[both][name][1] - told[both][name][0] >= width for name in some)


class Small(unittest.TestCase):
    def test_guesses_and_what_is_worked_out(self):
        for areas in SMALL:
            counts = all_counts(areas)
            for count in counts[::max(1, len(counts) // 3)]:
                for hidden in parts_of(areas.names):
                    told = guesses(areas, count, hidden)
                    sure = tuple(name for name in hidden if told[name][0] == told[name][1])
                    self.assertEqual(worked_out_areas(areas, count, hidden), sure)
                    for name in areas.names:
                        self.assertEqual(area_guess(areas, count, hidden, name), told[name], areas.text)
                        for width in (1, 2, 3):
                            safe = name in hidden and told[name][1] - told[name][0] >= width
                            self.assertIs(is_safe_area(areas, count, hidden, name, width), safe)

    def test_least_covers(self):
        many = 0
        for areas in SMALL[:60]:
            count = all_counts(areas)[len(all_counts(areas)) // 2]
            lots = parts_of(areas.names)
            told = {hidden: guesses(areas, count, hidden) for hidden in lots}
            for hidden, some in itertools.product(lots[:6], lots[:8]):
                for width in (1, 2):
                    shown = parts_of([name for name in areas.names if name not in hidden])
                    covers = [more for more in shown if is_cover(told, areas, hidden, some, width, more)]
                    least = tuple(more for more in covers if not any(set(less) < set(more) for less in covers))
                    many += len(least)
                    self.assertEqual(least_area_covers(areas, count, hidden, some, width), least, areas.text)
        self.assertGreater(many, 500)


class Edges(unittest.TestCase):
    def test_nothing_hidden_and_all_hidden(self):
        self.assertEqual(area_guess(TOWN, SEEN, (), "all"), (20, 20))
        self.assertEqual(worked_out_areas(TOWN, SEEN, ()), ())
        self.assertIs(is_safe_area(TOWN, SEEN, (), "all", 1), False)
        names = tuple(sorted(TOWN.names))
        self.assertEqual(area_guess(TOWN, SEEN, names, "all"), (0, 99))
        self.assertEqual(worked_out_areas(TOWN, SEEN, names), ())
        self.assertEqual(worked_out_areas(ALONE, (4,), ("all",)), ())
        self.assertEqual(worked_out_areas(ALONE.changed("all", (4, 4)), (4,), ("all",)), ("all",))

    def test_widths_that_just_are_and_just_are_not(self):
        for width, safe in ((1, True), (15, True), (16, True), (17, False), (10 ** 90, False)):
            self.assertIs(is_safe_area(TOWN, SEEN, ("east", "west"), "east", width), safe)
        self.assertIs(is_safe_area(TOWN, SEEN, ("east", "west"), "mid", 1), False)

    def test_covers(self):
        self.assertEqual(least_area_covers(TOWN, SEEN, (), (), 3), ((),))
        self.assertEqual(least_area_covers(TOWN, SEEN, ("east", "west"), ("east", "west"), 16), ((),))
        self.assertEqual(least_area_covers(TOWN, SEEN, ("east",), ("east",), 100), ())
        names = tuple(sorted(TOWN.names))
        self.assertEqual(least_area_covers(TOWN, SEEN, names, names, 99), ((),))
        self.assertEqual(least_area_covers(TOWN, SEEN, names, names, 100), ())
        self.assertEqual(least_area_covers(TOWN, SEEN, names, (), 100), ((),))
        self.assertEqual(least_area_covers(TOWN, SEEN, (), ("east",), 1),
                         (("all", "east"), ("east", "mid"), ("east", "west")))
        self.assertEqual(least_area_covers(ALONE, (4,), (), ("all",), 2), (("all",),))
        self.assertEqual(least_area_covers(ALONE, (4,), (), ("all",), 3), ())

    def test_ten_lines(self):
        areas = Areas((("all", "", (0, 4000)),) + tuple((name, "all", (0, 4000)) for name in "abcdefghi"))
        count = (45, 1, 2, 3, 4, 5, 6, 7, 8, 9)
        covers = least_area_covers(areas, count, ("a",), ("a",), 12)
        self.assertEqual(covers[:3], (("all",), ("b", "i"), ("c", "h")))
        self.assertEqual(covers, tuple(sorted(set(covers), key=lambda names: (len(names), names))))
        for cover in covers:
            self.assertTrue(cover == ("all",) or sum("abcdefghi".index(name) + 1 for name in cover) >= 11)

    def test_by_name(self):
        self.assertEqual(area_guess(areas=TOWN, count=SEEN, hidden=("east",), name="west"), (9, 9))
        self.assertEqual(worked_out_areas(areas=TOWN, count=SEEN, hidden=("east",)), ("east",))
        self.assertIs(is_safe_area(areas=TOWN, count=SEEN, hidden=("all", "east"), name="all", width=86), True)
        covers = least_area_covers(areas=TOWN, count=SEEN, hidden=("east",), some=("east",), width=17)
        self.assertEqual(covers, (("all",), ("mid", "west")))


class Names(unittest.TestCase):
    def test_the_first_name_that_is_none(self):
        for value in ("mid", ["mid"], {"mid": 1}):
            self.refuse(value, None)
        for value in STRANGE:
            if not isinstance(value, tuple):
                self.refuse(value, None)
            self.refuse((value,), 0)
            self.refuse(("all", "mid", value, "west"), 2)
            self.refuse(("all", "mid", value, value), 2)
        for value, index in ((("mid", "all"), 1), (("all", "all"), 1), (("east", "mid", "east", "no"), 2),
                             (("no", "mid", "all"), 0), (("all", "no", "mid"), 1), (("all", "east", "mid", "west", 1), 4)):
            self.refuse(value, index)

    def refuse(self, value, index):
        for call in (lambda: area_guess(TOWN, SEEN, value, None), lambda: worked_out_areas(TOWN, SEEN, value),
                     lambda: is_safe_area(TOWN, SEEN, value, "no", 0),
                     lambda: least_area_covers(TOWN, SEEN, value, None, 0),
                     lambda: least_area_covers(TOWN, SEEN, ("east",), value, 0)):
            with self.assertRaises(InvalidNames) as caught:
                call()
            self.assertEqual(caught.exception.index, index)


if __name__ == "__main__":
    unittest.main()
