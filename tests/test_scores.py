"""Told means and spreads, totals and squares ([18], [21])."""

import fractions
import itertools
import unittest

from support import STRANGE, all_scores, nearest
from toldcounts.errors import InvalidNumber, InvalidPeople, InvalidPlaces, InvalidScale
from toldcounts.scores import people_for_mean, squares_for, told_mean, told_spread, totals_for

SCALES = tuple((low, high) for low in range(7) for high in range(low, 7))


class Small(unittest.TestCase):
    def test_told_means_and_spreads(self):
        for people, total, places in itertools.product(range(1, 9), range(30), range(3)):
            self.assertEqual(told_mean(people, total, places), nearest(fractions.Fraction(10 ** places * total, people)))
            for squares in range(total * total // people, total * total // people + 9):
                if people * squares >= total * total:
                    spread = fractions.Fraction(10 ** places * (people * squares - total * total), people * people)
                    self.assertEqual(told_spread(people, total, squares, places), nearest(spread))

    def test_the_spread_is_that_of_scores(self):
        for scores in all_scores(4, (0, 5)):
            mean = fractions.Fraction(sum(scores), 4)
            spread = sum((score - mean) ** 2 for score in scores) / 4
            for places in range(3):
                told = told_spread(4, sum(scores), sum(score * score for score in scores), places)
                self.assertEqual(told, nearest(10 ** places * spread))

    def test_totals(self):
        for scale, people, places in itertools.product(SCALES, range(1, 5), range(3)):
            totals = {}
            for total in range(people * scale[0], people * scale[1] + 1):
                totals.setdefault(told_mean(people, total, places), []).append(total)
            for mean in list(range(0, 10)) + sorted(totals) + [mean + 1 for mean in totals]:
                self.assertEqual(totals_for(people, scale, mean, places), tuple(totals.get(mean, ())))

    def test_people(self):
        for scale, places in itertools.product(SCALES[::3], range(3)):
            for mean in range(0, 7 * 10 ** places, (1, 3, 17)[places]):
                right = tuple(people for people in range(1, 26) if totals_for(people, scale, mean, places))
                for most in (1, 2, 13, 25):
                    self.assertEqual(people_for_mean(scale, mean, places, most),
                                     tuple(people for people in right if people <= most))

    def test_squares(self):
        for scale, people in itertools.product(SCALES, range(1, 6)):
            found = {}
            for scores in all_scores(people, scale):
                found.setdefault(sum(scores), set()).add(sum(score * score for score in scores))
            for total in range(people * 6 + 2):
                self.assertEqual(squares_for(people, scale, total), tuple(sorted(found.get(total, ()))))


class Edges(unittest.TestCase):
    def test_halves(self):
        self.assertEqual([told_mean(2, total, 0) for total in (0, 1, 2, 3, 4)], [0, 1, 1, 2, 2])
        self.assertEqual([told_mean(4, total, 1) for total in (1, 2, 3, 5)], [3, 5, 8, 13])
        self.assertEqual([told_mean(8, 1, places) for places in range(3)], [0, 1, 13])
        self.assertEqual([told_mean(200, total, 2) for total in (1, 2, 3)], [1, 1, 2])
        self.assertEqual([told_spread(2, 1, 1, places) for places in range(3)], [0, 3, 25])
        self.assertEqual([told_spread(4, 2, squares, 0) for squares in (1, 2, 3, 4)], [0, 0, 1, 1])
        self.assertEqual(told_spread(2, 0, 1, 0), 1)
        self.assertEqual((told_spread(20, 0, 1, 1), told_spread(20, 0, 1, 0)), (1, 0))

    def test_squares_that_are_just_too_few(self):
        for people, total, squares in ((1, 3, 9), (3, 4, 6), (4, 10, 25), (3000, 4000, 5334), (2, 0, 0), (5, 1, 1)):
            self.assertGreaterEqual(told_spread(people, total, squares, 2), 0)
            with self.assertRaises(InvalidNumber) as caught:
                told_spread(people, total, squares - 1, 3)
            self.assertEqual(caught.exception.given, squares - 1)

    def test_many_people(self):
        self.assertEqual(told_mean(10 ** 30, 25 * 10 ** 29, 2), 250)
        self.assertEqual(told_mean(3, 10 ** 40, 0), (10 ** 40 + 1) // 3)
        self.assertEqual(told_spread(10 ** 20, 10 ** 20, 2 * 10 ** 20, 2), 100)
        self.assertEqual(totals_for(3000, (0, 6), 250, 2), tuple(range(7485, 7515)))
        self.assertEqual(totals_for(3000, (0, 6), 0, 0), tuple(range(1500)))
        self.assertEqual(totals_for(3000, (0, 6), 600, 2), tuple(range(17985, 18001)))
        self.assertEqual(totals_for(3000, (0, 6), 6, 0), tuple(range(16500, 18001)))
        right = [people for people in range(1, 3001)
                 if any(told_mean(people, people * 233 // 100 + more, 2) == 233 for more in range(-2, 3))]
        self.assertEqual(people_for_mean((1, 5), 233, 2, 3000), tuple(right))
        self.assertEqual((right[-1], len(right)), (3000, 2961))
        self.assertEqual(people_for_mean((1, 5), 601, 2, 3000), ())
        self.assertEqual(people_for_mean((1, 5), 233, 2, 2), ())
        for places, times in ((0, 1), (1, 10), (2, 100)):
            for mean in range(times, 5 * times + 1, 7):
                told = people_for_mean((1, 5), mean, places, 200)
                self.assertEqual(told[-(201 - times):], tuple(range(times, 201)))

    def test_twelve_people(self):
        self.assertEqual(squares_for(12, (0, 6), 0), (0,))
        self.assertEqual(squares_for(12, (0, 6), 72), (432,))
        self.assertEqual(squares_for(12, (0, 6), 73), ())
        squares = {sum(score * score for score in scores) for scores in all_scores(12, (0, 6)) if sum(scores) == 36}
        self.assertEqual(squares_for(12, (0, 6), 36), tuple(sorted(squares)))
        self.assertEqual((min(squares), max(squares)), (108, 216))
        self.assertEqual(squares_for(12, (3, 3), 36), (108,))
        self.assertEqual(squares_for(1, (4, 4), 4), (16,))

    def test_by_name(self):
        self.assertEqual(told_mean(people=4, total=10, places=2), 250)
        self.assertEqual(told_spread(people=4, total=10, squares=30, places=2), 125)
        self.assertEqual(totals_for(people=3, scale=(1, 5), mean=33, places=1), (10,))
        self.assertEqual(people_for_mean(scale=(1, 5), mean=233, places=2, most=12), (3, 6, 9, 12))
        self.assertEqual(squares_for(people=3, scale=(1, 5), total=9), (27, 29, 33, 35))


class Wrong(unittest.TestCase):
    def refuse(self, kind, call, values):
        for value in values:
            with self.assertRaises(kind) as caught:
                call(value)
            self.assertIs(caught.exception.given, value)

    def test_people_that_are_none(self):
        few = tuple(value for value in STRANGE if not (isinstance(value, int) and value > 10 ** 9))
        for call in (lambda people: told_mean(people, None, None), lambda people: told_spread(people, None, None, None)):
            self.refuse(InvalidPeople, call, few + (0, "3", (3,), [3]))
        self.refuse(InvalidPeople, lambda people: totals_for(people, None, None, None), STRANGE + (0, 3001, "3"))
        self.refuse(InvalidPeople, lambda people: squares_for(people, None, None), STRANGE + (0, 13, "3"))

    def test_scales_that_are_none(self):
        for call in (lambda scale: totals_for(3000, scale, None, None), lambda scale: squares_for(12, scale, None),
                     lambda scale: people_for_mean(scale, None, None, None)):
            self.refuse(InvalidScale, call, STRANGE + ((0, 7), (7, 7), (3, 2), [0, 6], (0,), (0, 1, 2), (0, True),
                                                       (-1, 3), "0-6", 6))

    def test_numbers_that_are_none(self):
        none = tuple(value for value in STRANGE if not (isinstance(value, int) and value > 10 ** 9))
        for call in (lambda total: told_mean(2, total, None), lambda total: told_spread(2, total, None, None),
                     lambda squares: told_spread(2, 0, squares, None), lambda total: squares_for(2, (1, 5), total),
                     lambda mean: totals_for(2, (1, 5), mean, None),
                     lambda mean: people_for_mean((1, 5), mean, None, None)):
            self.refuse(InvalidNumber, call, none + (-1, "1", (1,)))
        self.refuse(InvalidNumber, lambda most: people_for_mean((1, 5), 3, 0, most), STRANGE + (0, 3001, "1"))
        self.assertEqual(totals_for(2, (1, 5), 10 ** 99, 2), ())
        self.assertEqual(squares_for(2, (1, 5), 10 ** 99), ())

    def test_places_that_are_none(self):
        for call in (lambda places: told_mean(2, 3, places), lambda places: told_spread(2, 3, 5, places),
                     lambda places: totals_for(2, (1, 5), 3, places),
                     lambda places: people_for_mean((1, 5), 3, places, None)):
            self.refuse(InvalidPlaces, call, STRANGE + (3, -1, "0", (0,)))


if __name__ == "__main__":
    unittest.main()
