"""What scores that fit a report can have, needless facts, clashes and rests ([18] to [20])."""

import collections
import itertools
import random
import unittest

from support import CLASHING, FEW, STRANGE, all_fits, all_scores, is_told, many_reports, some_report
from toldcounts.errors import InvalidNumber, InvalidPeople, InvalidScale, NotAReport
from toldcounts.reports import Report
from toldcounts.reportvalues import (highest, holders, least_clashes, lowest, middles, needless_facts, rest_totals,
                                     squares, totals)

SAMPLES = many_reports(211, 300)
VALUES = ((totals, sum), (squares, lambda scores: sum(score * score for score in scores)), (lowest, min), (highest, max),
          (middles, lambda scores: scores[(len(scores) - 1) // 2]))


def fits_of(report, indexes):
    """All scores that are as these facts tell."""
    return [scores for scores in all_scores(report.people, report.scale)
            if all(is_told(scores, report.facts[at]) for at in indexes)]


def lie_in(scores, others):
    """Whether no score is had by more people in the first ones."""
    return not collections.Counter(scores) - collections.Counter(others)


class Small(unittest.TestCase):
    def test_values(self):
        for report in SAMPLES:
            fits = all_fits(report)
            for call, value in VALUES:
                self.assertEqual(call(report), tuple(sorted({value(scores) for scores in fits})), report.text)
            for score in range(report.scale[0], report.scale[1] + 1):
                self.assertEqual(holders(report, score), tuple(sorted({scores.count(score) for scores in fits})))

    def test_needless_facts(self):
        many = {True: 0, False: 0}
        for report in SAMPLES:
            fits = all_fits(report)
            indexes = range(len(report.facts))
            right = tuple(at for at in indexes if fits_of(report, [other for other in indexes if other != at]) == fits)
            many[bool(fits)] += len(right)
            self.assertEqual(needless_facts(report), right, report.text)
        self.assertGreater(min(many.values()), 60)

    def test_least_clashes(self):
        found = collections.Counter()
        for report in SAMPLES:
            clashes = []
            for many in range(1, len(report.facts) + 1):
                for some in itertools.combinations(range(len(report.facts)), many):
                    if not any(set(clash) <= set(some) for clash in clashes) and not fits_of(report, some):
                        clashes.append(some)
            self.assertEqual(least_clashes(report), tuple(clashes), report.text)
            self.assertEqual(clashes == [], bool(all_fits(report)))
            found.update(len(clash) for clash in clashes)
        self.assertGreater(min(found[1], found[2]), 20)
        self.assertGreater(found[3], 0)

    def test_rests(self):
        chance, found = random.Random(212), collections.Counter()
        for _ in range(250):
            low = chance.randint(0, 4)
            scale = (low, chance.randint(low, min(6, low + 3)))
            people = chance.randint(2, 5)
            whole = some_report(chance, people, scale, chance.randint(0, 3))
            part = some_report(chance, chance.randint(1, people - 1), scale, chance.randint(0, 2))
            rests = {sum(scores) - sum(some) for scores in all_fits(whole) for some in all_fits(part)
                     if lie_in(some, scores)}
            found[min(2, len(rests))] += 1
            self.assertEqual(rest_totals(whole, part), tuple(sorted(rests)), (whole.text, part.text))
        self.assertGreater(min(found.values()), 20)


class Edges(unittest.TestCase):
    def test_one_person(self):
        one = Report(1, (2, 5), ())
        for call in (totals, middles, lowest, highest):
            self.assertEqual(call(one), (2, 3, 4, 5))
        self.assertEqual((squares(one), holders(one, 3)), ((4, 9, 16, 25), (0, 1)))
        self.assertEqual((needless_facts(one), least_clashes(one)), ((), ()))
        single = Report(1, (4, 4), (("least", 4), ("greatest", 4)))
        self.assertEqual((totals(single), holders(single, 4), needless_facts(single)), ((4,), (1,), (0, 1)))

    def test_twelve_people(self):
        free = Report(12, (0, 6), ())
        self.assertEqual(totals(free), tuple(range(73)))
        self.assertEqual(holders(free, 6), tuple(range(13)))
        self.assertEqual((lowest(free), middles(free)), (tuple(range(7)), tuple(range(7))))
        even = Report(12, (0, 6), (("mean", 0, 3), ("spread", 0, 9), ("holders", 3, (0, 0))))
        fits = all_fits(even)
        self.assertEqual(totals(even), tuple(sorted({sum(scores) for scores in fits})))
        self.assertEqual(squares(even), tuple(sorted({sum(score * score for score in scores) for scores in fits})))
        self.assertEqual(rest_totals(free, Report(11, (0, 6), ())), tuple(range(7)))
        self.assertEqual(rest_totals(free, Report(6, (0, 6), ())), tuple(range(37)))
        self.assertEqual(rest_totals(Report(12, (0, 6), (("total", (36, 36)),)), Report(6, (0, 6), (("total", (1, 2)),))),
                         (34, 35))
        self.assertEqual(rest_totals(Report(12, (0, 6), (("total", (40, 40)),)), Report(6, (0, 6), (("total", (1, 2)),))),
                         ())

    def test_where_no_scores_fit(self):
        for call, _ in VALUES:
            self.assertEqual(call(CLASHING), ())
        self.assertEqual(holders(CLASHING, 2), ())
        self.assertEqual(rest_totals(CLASHING, Report(1, (1, 5), ())), ())
        self.assertEqual(rest_totals(Report(4, (1, 5), ()), CLASHING), ())
        self.assertEqual(least_clashes(CLASHING), ((0, 1), (0, 2)))
        # Without the first fact some scores fit, without each other one none do.
        self.assertEqual(needless_facts(CLASHING), (1, 2))
        self.assertEqual(least_clashes(Report(3, (1, 5), (("mean", 0, 6), ("middle", 2), ("spread", 0, 50)))),
                         ((0,), (2,)))
        three = Report(3, (0, 6), (("least", 0), ("greatest", 5), ("total", (11, 18)), ("mean", 0, 2)))
        self.assertEqual(least_clashes(three), ((2, 3), (0, 1, 2)))

    def test_facts_that_are_needless(self):
        twice = Report(4, (0, 6), (("total", (9, 11)), ("total", (9, 11)), ("least", 1)))
        self.assertEqual(needless_facts(twice), (0, 1))
        free = Report(4, (2, 2), (("least", 2), ("mean", 2, 200), ("spread", 0, 0), ("holders", 2, (4, 9))))
        self.assertEqual(needless_facts(free), (0, 1, 2, 3))
        self.assertEqual(needless_facts(Report(12, (0, 6), (("total", (0, 72)),))), (0,))
        self.assertEqual(needless_facts(Report(12, (0, 6), (("total", (1, 72)),))), ())

    def test_by_name(self):
        self.assertEqual(holders(report=FEW, score=2), (1, 2))
        self.assertEqual([call(report=FEW) for call, _ in VALUES], [(8, 9), (24, 30, 33), (1, 2), (4, 5), (2,)])
        self.assertEqual((needless_facts(report=FEW), least_clashes(report=CLASHING)), ((), ((0, 1), (0, 2))))
        self.assertEqual(rest_totals(report=FEW, part=Report(1, (1, 5), (("least", 2),))), (6, 7))


class Wrong(unittest.TestCase):
    def test_scores_that_are_none(self):
        for value in STRANGE + (0, 6, "2", (2,), [2]):
            for report in (FEW, CLASHING):
                with self.assertRaises(InvalidNumber) as caught:
                    holders(report, value)
                self.assertIs(caught.exception.given, value)

    def test_reports_that_are_none(self):
        for value in STRANGE + (FEW.text, FEW.facts):
            for call in (totals, squares, middles, lowest, highest, needless_facts, least_clashes,
                         lambda report: holders(report, None), lambda report: rest_totals(report, None),
                         lambda part: rest_totals(FEW, part)):
                with self.assertRaises(NotAReport) as caught:
                    call(value)
                self.assertIs(caught.exception.given, value)

    def test_parts_that_are_none(self):
        for people in (3, 4, 12):
            for scale in ((1, 5), (0, 5)):
                with self.assertRaises(InvalidPeople) as caught:
                    rest_totals(FEW, Report(people, scale, ()))
                self.assertEqual(caught.exception.given, people)
        for scale in ((0, 5), (1, 6), (2, 5), (1, 4), (1, 1)):
            with self.assertRaises(InvalidScale) as caught:
                rest_totals(FEW, Report(2, scale, ()))
            self.assertEqual(caught.exception.given, scale)
        with self.assertRaises(InvalidPeople):
            rest_totals(Report(1, (1, 5), ()), Report(1, (1, 5), ()))
        self.assertEqual(rest_totals(FEW, Report(2, (1, 5), ())), (1, 2, 4, 5))


if __name__ == "__main__":
    unittest.main()
