"""Scores that fit a report ([18], [19])."""

import itertools
import unittest

from support import CLASHING, FEW, STRANGE, all_fits, all_scores, is_told, many_reports
from toldcounts.errors import InvalidIndex, InvalidScores, NotAReport
from toldcounts.reportdata import does_fit, first_scores, index_of_scores, last_scores, scores_at, scores_number
from toldcounts.reports import Report

SAMPLES = many_reports(201, 300)


class Small(unittest.TestCase):
    def test_all_scores_that_fit(self):
        fit = 0
        for report in SAMPLES:
            fits = all_fits(report)
            fit += bool(fits)
            self.assertEqual(scores_number(report), len(fits), report.text)
            self.assertEqual(first_scores(report), (fits + [None])[0])
            self.assertEqual(last_scores(report), ([None] + fits)[-1])
            for index, scores in enumerate(fits[:40]):
                self.assertEqual(scores_at(report, index), scores)
                self.assertEqual(index_of_scores(report, scores), index)
            for index in (len(fits), len(fits) + 3):
                with self.assertRaises(InvalidIndex) as caught:
                    scores_at(report, index)
                self.assertEqual(caught.exception.given, index)
        self.assertTrue(180 < fit < 300)

    def test_does_fit_for_all_tuples(self):
        for report in many_reports(202, 60, most_people=3):
            fits = all_fits(report)
            for scores in itertools.product(range(-1, 8), repeat=report.people):
                self.assertIs(does_fit(report, scores), scores in fits)

    def test_each_kind_of_fact(self):
        for people, scale in ((1, (0, 6)), (2, (1, 5)), (3, (0, 3)), (4, (2, 5)), (5, (5, 6))):
            facts = [(word, places, number) for word in ("mean", "spread") for places in range(3) for number in range(0, 301)]
            facts += [("total", (low, high)) for low in range(8) for high in range(low, 12)]
            facts += [(word, score) for word in ("middle", "least", "greatest") for score in range(scale[0], scale[1] + 1)]
            facts += [("holders", score, (low, high)) for score in range(scale[0], scale[1] + 1)
                      for low in range(4) for high in range(low, 4)]
            every = all_scores(people, scale)
            for fact in facts[::3] + facts[-40:]:
                fits = [scores for scores in every if is_told(scores, fact)]
                self.assertEqual(scores_number(Report(people, scale, (fact,))), len(fits), fact)
                self.assertEqual(first_scores(Report(people, scale, (fact,))), (fits + [None])[0], fact)


class Edges(unittest.TestCase):
    def test_no_facts(self):
        for people, scale, number in ((12, (0, 6), 18564), (12, (3, 3), 1), (1, (0, 6), 7), (1, (6, 6), 1), (2, (0, 1), 3)):
            report = Report(people, scale, ())
            self.assertEqual(scores_number(report), number)
            self.assertEqual(first_scores(report), scale[:1] * people)
            self.assertEqual(last_scores(report), scale[1:] * people)
            self.assertEqual(index_of_scores(report, scale[1:] * people), number - 1)
            self.assertEqual(scores_at(report, number - 1), scale[1:] * people)

    def test_twelve_people(self):
        report = Report(12, (0, 6), (("mean", 1, 30), ("spread", 1, 40), ("total", (30, 40)), ("middle", 3),
                                     ("least", 0), ("holders", 3, (1, 5))))
        fits = all_fits(report)
        self.assertEqual((scores_number(report), first_scores(report)), (len(fits), fits[0]))
        self.assertEqual((scores_at(report, 7), index_of_scores(report, fits[7])), (fits[7], 7))

    def test_facts_that_clash(self):
        self.assertEqual((scores_number(CLASHING), first_scores(CLASHING), last_scores(CLASHING)), (0, None, None))
        with self.assertRaises(InvalidIndex):
            scores_at(CLASHING, 0)
        with self.assertRaises(InvalidScores):
            index_of_scores(CLASHING, (2, 2, 5))
        self.assertIs(does_fit(CLASHING, (2, 2, 5)), False)
        self.assertEqual(scores_number(Report(3, (1, 5), (("mean", 0, 10 ** 90),))), 0)

    def test_means_at_halves(self):
        self.assertEqual(first_scores(Report(2, (0, 6), (("mean", 0, 3),))), (0, 5))
        self.assertEqual(last_scores(Report(2, (0, 6), (("mean", 0, 3),))), (3, 3))
        self.assertEqual(scores_number(Report(1, (0, 6), (("spread", 0, 0),))), 7)
        self.assertEqual(scores_number(Report(1, (0, 6), (("spread", 0, 1),))), 0)

    def test_by_name(self):
        self.assertIs(does_fit(report=FEW, value=(2, 2, 5)), True)
        self.assertEqual((first_scores(report=FEW), last_scores(report=FEW)), ((1, 2, 5), (2, 2, 5)))
        self.assertEqual((scores_number(report=FEW), scores_at(report=FEW, index=1)), (3, (2, 2, 4)))
        self.assertEqual(index_of_scores(report=FEW, scores=(2, 2, 5)), 2)


class Wrong(unittest.TestCase):
    NONE = STRANGE + ([2, 2, 5], (2, 5, 2), (5, 2, 2), (2, 2), (2, 2, 5, 5), (2, 2, 6), (0, 2, 5), (2, 2, True),
                      (True, 2, 5), (2, 2, "5"), (2, 2, None), (2, 2, 3), (1, 2, 3), "225", (2.0 == 2, 2, 5), ())

    def test_what_are_no_scores_that_fit(self):
        self.assertIs(does_fit(FEW, (2, 2, 5)), True)
        for value in self.NONE:
            self.assertIs(does_fit(FEW, value), False)
            self.assertIs(does_fit(FEW, (2, 2, value)), False)
            with self.assertRaises(InvalidScores) as caught:
                index_of_scores(FEW, value)
            self.assertIs(caught.exception.given, value)

    def test_indexes_and_reports_that_are_none(self):
        for value in STRANGE + (3, "0", (0,), [0]):
            for report in (FEW, CLASHING):
                with self.assertRaises(InvalidIndex) as caught:
                    scores_at(report, value)
                self.assertIs(caught.exception.given, value)
        for value in STRANGE + (FEW.text, FEW.facts):
            for call in (first_scores, last_scores, scores_number, lambda report: does_fit(report, None),
                         lambda report: scores_at(report, None), lambda report: index_of_scores(report, None)):
                with self.assertRaises(NotAReport) as caught:
                    call(value)
                self.assertIs(caught.exception.given, value)


if __name__ == "__main__":
    unittest.main()
