"""Reports: what is told of scores ([19])."""

import itertools
import unittest

from support import STRANGE
from toldcounts.errors import InvalidFact, InvalidFacts, InvalidIndex, InvalidPeople, InvalidScale, InvalidText, TooMany
from toldcounts.reports import Report

FEW = Report(3, (1, 5), (("mean", 0, 3), ("middle", 2)))
FACTS = (("mean", 0, 3), ("spread", 2, 125), ("total", (8, 10)), ("middle", 2), ("least", 1), ("greatest", 5),
         ("holders", 4, (0, 2)), ("total", (9, 9)), ("holders", 1, (1, 1)), ("mean", 2, 0), ("spread", 1, 10 ** 50))
NO_FACTS = (("mean", 3, 3), ("mean", 0), ("mean", 0, -1), ("mean", 0, 3, 3), ("mean", True, 3), ("mean", 0, True),
            ("mean", 0, "3"), ("spread", -1, 3), ("spread", 0, None), ("spread", 0, (1, 2)), ("mean", (0,), 3),
            ("total", 8), ("total", (9, 8)), ("total", (8, 4001)), ("total", [8, 9]), ("total", (8, 9), 1), ("total",),
            ("middle", 0), ("middle", 6), ("middle", "2"), ("middle", True), ("middle",), ("middle", 2, 2),
            ("least", 0), ("least", 6), ("least", None), ("least", (1, 5)), ("greatest", 0), ("greatest", 6),
            ("greatest", -2), ("holders", 0, (0, 1)), ("holders", 6, (0, 1)), ("holders", 2, 1), ("holders", 2),
            ("holders", 2, (1, 0)), ("holders", 2, (0, 1), 1), ("holders", (0, 1), 2), ("holder", 2, (0, 1)), ("", 3),
            ("means", 0, 3), ("MEAN", 0, 3), (0, 3), ("mean 0 3",), "mean 0 3", ["mean", 0, 3], ("mean", [0], 3),
            (b"middle", 2), (("middle",), 2), (None, 2), ())


class Reports(unittest.TestCase):
    def test_properties(self):
        self.assertEqual((FEW.people, FEW.scale, FEW.facts), (3, (1, 5), (("mean", 0, 3), ("middle", 2))))
        self.assertEqual(FEW.text, "report 3 1-5\nmean 0 3\nmiddle 2")
        self.assertEqual((str(FEW), len(FEW)), (FEW.text, 2))
        bare = Report(12, (6, 6), ())
        self.assertEqual((bare.text, len(bare), bool(bare), bare.facts), ("report 12 6", 0, True, ()))
        for name in ("people", "scale", "facts", "text"):
            with self.assertRaises(AttributeError):
                setattr(FEW, name, None)

    def test_texts_of_facts(self):
        full = Report(5, (0, 6), FACTS[:6])
        self.assertEqual(full.text.split("\n"), ["report 5 0-6", "mean 0 3", "spread 2 125", "total 8-10", "middle 2",
                                                 "least 1", "greatest 5"])
        more = Report(1, (1, 5), FACTS[6:])
        self.assertEqual(more.text.split("\n"), ["report 1 1-5", "holders 4 0-2", "total 9", "holders 1 1", "mean 2 0",
                                                 f"spread 1 1{'0' * 50}"])
        for report in (full, more, FEW, Report(12, (0, 0), ())):
            self.assertEqual(Report.told(report.text), report)
            self.assertEqual(Report.told(text=report.text).facts, report.facts)

    def test_equal(self):
        self.assertEqual(Report(3, (1, 5), FEW.facts), FEW)
        self.assertFalse(Report(3, (1, 5), FEW.facts) != FEW)
        for other in (Report(4, (1, 5), FEW.facts), Report(3, (1, 6), FEW.facts), Report(3, (1, 5), FEW.facts[::-1]),
                      Report(3, (1, 5), FEW.facts[:1]), FEW.text, FEW.facts, None, 3):
            self.assertFalse(FEW == other)
            self.assertTrue(FEW != other)
        for value in STRANGE[:20]:
            self.assertIs(FEW == value, False)

    def test_more_and_without(self):
        report = Report(3, (1, 5), ())
        for at, fact in enumerate(FACTS[:6]):
            report = report.more(fact)
            self.assertEqual(report.facts, FACTS[:at + 1])
        self.assertEqual(report, Report(3, (1, 5), FACTS[:6]))
        for at in range(6):
            self.assertEqual(report.without(at).facts, FACTS[:at] + FACTS[at + 1:6])
        self.assertEqual(report.without(0).more(FACTS[0]).facts, FACTS[1:6] + FACTS[:1])
        self.assertEqual((len(report), report.people, report.without(2).scale), (6, 3, (1, 5)))
        self.assertEqual(FEW.more(fact=("total", (8, 10))).without(index=1).facts, (("mean", 0, 3), ("total", (8, 10))))

    def test_by_name(self):
        self.assertEqual(Report(people=3, scale=(1, 5), facts=FEW.facts), FEW)


class Wrong(unittest.TestCase):
    def test_people_and_scales_that_are_none(self):
        for value in STRANGE + (0, 13, "3", (3,), -3):
            with self.assertRaises(InvalidPeople) as caught:
                Report(value, None, None)
            self.assertIs(caught.exception.given, value)
        for value in STRANGE + ((0, 7), (3, 2), [1, 5], "1-5", (1,), (1, 2, 3), (True, 5)):
            with self.assertRaises(InvalidScale) as caught:
                Report(12, value, None)
            self.assertIs(caught.exception.given, value)

    def test_facts_that_are_none(self):
        for value in STRANGE + NO_FACTS:
            self.refuse((value,), 0)
            self.refuse((FACTS[0], value, 7), 1)
            self.refuse(FACTS[:5] + (value,), 5)
            if not isinstance(value, tuple):
                self.refuse(value, None)
            with self.assertRaises(InvalidFact) as caught:
                FEW.more(value)
            self.assertIs(caught.exception.given, value)
            with self.assertRaises(InvalidFact):
                Report(3, (1, 5), FACTS[:6]).more(value)
        self.refuse(list(FACTS), None)

    def refuse(self, value, index):
        with self.assertRaises(InvalidFacts) as caught:
            Report(3, (1, 5), value)
        self.assertEqual(caught.exception.index, index)

    def test_the_seventh_fact(self):
        for many in (7, 8):
            self.refuse(FACTS[:many], 6)
        self.refuse(FACTS[:6] + (None,), 6)
        self.refuse(FACTS[:3] + (None,) + FACTS[:4], 3)
        full = Report(3, (1, 5), FACTS[:6])
        with self.assertRaises(TooMany) as caught:
            full.more(FACTS[6])
        self.assertEqual(caught.exception.given, 7)
        self.assertEqual(len(full.without(5).more(FACTS[6])), 6)

    def test_indexes_that_are_none(self):
        for report in (FEW, Report(3, (1, 5), ())):
            for value in STRANGE + (2, "0", (0,), -1):
                with self.assertRaises(InvalidIndex) as caught:
                    report.without(value)
                self.assertIs(caught.exception.given, value)
        with self.assertRaises(InvalidIndex):
            Report(3, (1, 5), ()).without(0)

    def test_scores_lie_in_the_scale(self):
        for word, (low, high) in itertools.product(("middle", "least", "greatest"), ((0, 6), (2, 2), (1, 5))):
            for score in range(-1, 9):
                facts = ((word, score),)
                if low <= score <= high:
                    self.assertEqual(Report(2, (low, high), facts).facts, facts)
                else:
                    with self.assertRaises(InvalidFacts):
                        Report(2, (low, high), facts)


class Texts(unittest.TestCase):
    def test_texts_that_are_none(self):
        wrong = ["", "\n", "report", "report 3", "report 3 1-5\n", "\nreport 3 1-5", "report 3 1-5 ", " report 3 1-5",
                 "report  3 1-5", "report 03 1-5", "report 3 01-5", "report 3 1-7", "report 13 1-5", "report 0 1-5",
                 "report 3 5-1", "report 3 1-1", "Report 3 1-5", "reports 3 1-5", "report 3 1-5 6", "report 1-5 3",
                 "report 3 1-5\nmean 0", "report 3 1-5\nmean 0 3 3", "report 3 1-5\nmean 0 03", "report 3 1-5\nmean 3 3",
                 "report 3 1-5\nmean 0 -3", "report 3 1-5\nmiddle 6", "report 3 1-5\nmiddle 02", "report 3 1-5\nmiddle",
                 "report 3 1-5\ntotal 8-8", "report 3 1-5\ntotal 9-8", "report 3 1-5\ntotal 8-4001",
                 "report 3 1-5\nholders 2", "report 3 1-5\nholders 2 1-1", "report 3 1-5\nholders 0-1 2",
                 "report 3 1-5\n\nmean 0 3", "report 3 1-5\nmean  0 3", "report 3 1-5\nmean 0 3 ",
                 "report 3 1-5\n mean 0 3", "report 3 1-5\nmedian 2", "mean 0 3\nreport 3 1-5", "mean 0 3",
                 "report 3 1-5\nreport 3 1-5", "report 3 1-5\nmean 0 3.5", "report three 1-5", "report 3 1,5"]
        wrong += ["report 3 1-5" + "\nleast 1" * 7, Report(3, (1, 5), FACTS[:6]).text + "\nmiddle 2"]
        text = Report(3, (1, 5), FACTS[:6]).text
        for at in range(len(text)):
            wrong += [text[:at] + "0" + text[at:], text[:at] + " " + text[at:], text[:at] + text[at + 1:]]
        refused = 0
        for value in wrong + list(STRANGE):
            try:
                found = Report.told(value)
            except InvalidText as error:
                self.assertIs(error.given, value)
                refused += 1
            else:
                self.assertEqual(found.text, value)
                self.assertNotIn(value, wrong[:47])
        self.assertGreater(refused, 230)


if __name__ == "__main__":
    unittest.main()
