"""Integers of many digits in texts ([3], [5], [19], [27]): such as were returned, and what comes of these by adding,
taking away or multiplying, also with more digits than Python itself writes and reads."""

import contextlib
import sys
import unittest

from support import FEW, GRID, HALL, LAND, ONES
from support_polls import HALVES, NINE, refused
from toldcounts.areas import Areas
from toldcounts.certificates import certify_people
from toldcounts.checker import accepts
from toldcounts.consoles import Console
from toldcounts.crosses import Cross
from toldcounts.desks import Desk
from toldcounts.errors import InvalidLog, InvalidText
from toldcounts.faces import Faces
from toldcounts.pages import Page
from toldcounts.pollpeople import does_fit_people, pollings_number
from toldcounts.polls import Poll
from toldcounts.profiles import first_profile, profiles_number
from toldcounts.reportdata import does_fit, first_scores, scores_number
from toldcounts.reports import Report
from toldcounts.reportvalues import least_clashes, needless_facts, totals
from toldcounts.rules import can_win
from toldcounts.shelves import Shelf, played
from toldcounts.stretches import read_stretch
from toldcounts.things import read_thing, thing_text
from toldcounts.votes import Votes
from toldcounts.wishes import does_hold

RETURNED = pollings_number(Poll(0, (17, 17, 17, 17, 16, 16)), 10 ** 99)
PRODUCTS = [RETURNED ** times for times in range(1, 9)]
FAR = RETURNED ** 9
FREE = ((0, 3), (0, 3), (0, 3))
# How long the numbers are of which each sort is tried.
LENGTHS = (1, 2, 60, 64, 99, 100, 101, 102, 199, 200, 201, 300, 485, 600, 639, 640, 641, 899, 900, 901, 1000, 1001, 2399,
           2400, 3900)


@contextlib.contextmanager
def any_digits():
    """Python's own limit for the digits of integers in texts put aside."""
    limit = sys.get_int_max_str_digits()
    sys.set_int_max_str_digits(0)
    try:
        yield
    finally:
        sys.set_int_max_str_digits(limit)


def digits(number):
    with any_digits():
        return str(number)


def with_mean(number):
    return Report(1, (0, 1), (("mean", 0, number), ("total", (0, 1))))


def with_pair(number):
    return Votes(3, (number, 1, 1), FREE)


def numbers_of(length):
    """Numbers with so many digits: the least, the greatest, some with many zeros, some between."""
    least = 10 ** (length - 1)
    found = [least, 10 * least - 1, 5 * least, 10 * least - 10, int(("123456789" * length)[:length])]
    return found + [least + 10 ** at for at in (98, 99, 100, 101, 198, 199, 200, 201) if at < length - 1]


class Texts(unittest.TestCase):
    def read_again(self, number, text):
        report, votes = with_mean(number), with_pair(number)
        self.assertEqual(report.text, f"report 1 0-1\nmean 0 {text}\ntotal 0-1")
        self.assertEqual(votes.text, f"votes 3 {text} 1 1 0-3 0-3 0-3")
        self.assertTrue(Report.told(report.text) == report)
        self.assertTrue(Report.told(report.text).facts == report.facts)
        self.assertTrue(read_thing(thing_text(report)) == report)
        self.assertTrue(played((("put", "a", report.text),)).thing("a") == report)
        self.assertTrue(Votes.told(votes.text) == votes)
        self.assertTrue(Votes.told(votes.text).pairs == votes.pairs)

    def test_products_of_returned_numbers(self):
        self.assertEqual([len(str(number)) for number in PRODUCTS], [485, 970, 1455, 1939, 2424, 2909, 3394, 3878])
        for number in PRODUCTS:
            self.read_again(number, str(number))

    def test_sums_and_differences(self):
        for number in (PRODUCTS[7] + PRODUCTS[3], PRODUCTS[7] - PRODUCTS[3], PRODUCTS[2] - PRODUCTS[2] + 1,
                       PRODUCTS[4] - RETURNED * RETURNED - 10 ** 99, 10 ** 99 * PRODUCTS[7]):
            self.read_again(number, str(number))

    def test_numbers_of_all_lengths(self):
        for length in LENGTHS:
            for number in numbers_of(length):
                self.assertEqual(len(str(number)), length)
                self.read_again(number, str(number))

    def test_texts_of_4000_characters(self):
        room = 4000 - len(with_mean(0).text) + 1
        number = 10 ** room - 7
        self.assertEqual(len(with_mean(number).text), 4000)
        self.read_again(number, "9" * (room - 1) + "3")
        many = 4000 // 6 - 30
        facts = tuple((word, places, 10 ** many - places) for word in ("mean", "spread") for places in (0, 1, 2))
        report = Report(12, (0, 6), facts)
        self.assertLess(len(report.text), 4000)
        self.assertTrue(Report.told(report.text) == report)
        self.assertEqual(Report.told(report.text).facts, facts)
        votes = Votes(60, (10 ** 1300, 10 ** 1301 - 1, RETURNED * RETURNED), FREE)
        self.assertLess(len(votes.text), 4000)
        self.assertEqual(Votes.told(votes.text).pairs, votes.pairs)

    def test_digits_that_are_no_number(self):
        for number in (*PRODUCTS[:3], 10 ** 299, 10 ** 300, 10 ** 900):
            text = str(number)
            wrong = ["0" + text, "00" + text, "-" + text, "+" + text, text + " ", text + ".", text + "-" + text, "0" * len(text)]
            for at in (1, 85, 86, 99, 100, 101, len(text) - 200, len(text) - 100, len(text) - 99, len(text) - 1):
                wrong += [text[:at] + sign + text[at + more:] for sign in "_ +-x,\n" for more in (0, 1)]
            for value in wrong:
                for line in (f"mean 0 {value}", f"spread 2 {value}"):
                    refused(self, InvalidText, Report.told, f"report 3 1-5\n{line}\nmiddle 2")
                    refused(self, InvalidText, read_thing, f"report 3 1-5\n{line}")
                refused(self, InvalidText, Votes.told, f"votes 3 1 {value} 1 0-3 0-3 0-3")
            self.assertEqual(refused(self, InvalidLog, played, (("put", "a", f"report 3 1-5\nmean 0 0{text}"),)).index, 0)

    def test_where_no_long_number_can_stand(self):
        page = Page(GRID, ((0, 3), (1, 1)), ())
        for number in (RETURNED, PRODUCTS[1], PRODUCTS[7], 10 ** 100, 10 ** 900):
            text = f"{number}"
            refused(self, InvalidText, read_stretch, text)
            refused(self, InvalidText, read_stretch, f"0-{text}")
            refused(self, InvalidText, Areas.told, LAND.text.replace("10-12", f"10-{text}"))
            refused(self, InvalidText, Cross.told, HALL.text.replace("4-6", f"4-{text}"))
            refused(self, InvalidText, Page.told, page.text.replace("numbers 0 3", f"numbers 0 {text}"))
            refused(self, InvalidText, Poll.told, f"poll 0 50 {text}")
            refused(self, InvalidText, Poll.told, f"poll {text} 50 50")
            refused(self, InvalidText, Faces.told, ONES.text.replace("top 1 1", f"top 1 {text}"))
            refused(self, InvalidText, Votes.told, NINE.text.replace("votes 9", f"votes {text}"))
            refused(self, InvalidText, Votes.told, NINE.text.replace("0-9", f"0-{text}"))
            for line in (f"report {text} 1-5", f"report 3 1-{text}", f"report 3 1-5\nmean {text} 3",
                         f"report 3 1-5\nmiddle {text}", f"report 3 1-5\nholders 2 0-{text}"):
                refused(self, InvalidText, Report.told, line)


class Lines(unittest.TestCase):
    def test_cells_that_no_cross_has(self):
        for cross in (GRID, HALL):
            console = Console(Desk(cross))
            self.assertEqual(console.say("ends cell 7 0"), "InvalidTold")
            for number in (*PRODUCTS, 10 ** 100, 10 ** 900 - 1, 10 ** 3900):
                for line in (f"ends cell {number} 0", f"ends cell 0 {number}", f"tell cell {number} 0 3",
                             f"tell cell 0 {number} 0-3"):
                    self.assertLessEqual(len(line), 4000)
                    self.assertEqual(console.say(line), "InvalidTold")
                for line in (f"ends cell 0{number} 0", f"ends cell 0 -{number}", f"tell cell {number} 00 3",
                             f"tell row all {number}", f"tell cell 0 0 3-{number}", f"ends cell {number}", f"tell {number}"):
                    self.assertEqual(console.say(line), "no such line")
            self.assertEqual(console.say("told"), "0")


class Claims(unittest.TestCase):
    def test_long_numbers_in_claims_and_papers(self):
        for number in (*PRODUCTS, FAR):
            self.assertIs(accepts(("scores", with_mean(number).text), (0,)), False)
            self.assertIs(accepts(("profile", with_pair(number).text), (number, 1, 1, 0, 0, 0)), False)
            self.assertIs(accepts(("scores", FEW.text), (2, 2, number)), False)
            claim, paper = certify_people(HALVES, 2 * number)
            self.assertIs(accepts(claim, paper), True)
            self.assertIs(accepts(claim, (paper[0] - 1, paper[1])), False)
            self.assertIs(accepts((*claim[:2], 2 * number - 1), paper), False)


class VeryLong(unittest.TestCase):
    def test_reports_can_be_made(self):
        self.assertEqual(len(digits(FAR)), 4363)
        for word in ("mean", "spread"):
            report = Report(1, (0, 1), ((word, 0, FAR), ("total", (0, 1))))
            self.assertTrue(report.facts == ((word, 0, FAR), ("total", (0, 1))))
            self.assertEqual((len(report), report.people, report.scale), (2, 1, (0, 1)))
            self.assertEqual((first_scores(report), scores_number(report), totals(report)), (None, 0, ()))
            self.assertIs(does_fit(report, (0,)), False)
            self.assertEqual((least_clashes(report), needless_facts(report)), (((0,),), (1,)))
            more = Report(1, (0, 1), (("total", (0, 1)),)).more((word, 0, FAR))
            self.assertTrue(more.facts == report.facts[::-1])
            self.assertEqual((scores_number(more), scores_number(more.without(1))), (0, 2))
            self.assertTrue(more.without(0).facts == report.facts[:1])

    def test_votes_can_be_made(self):
        for at in range(3):
            pairs = tuple(FAR if at == place else 1 for place in range(3))
            votes = Votes(3, pairs, FREE)
            self.assertTrue(votes.pairs == pairs)
            self.assertEqual((len(votes), first_profile(votes), profiles_number(votes)), (3, None, 0))
            self.assertIs(can_win(votes, "a", "pairs"), False)

    def test_equal_and_texts(self):
        for number in (FAR, FAR * FAR, FAR + 1, FAR - 10 ** 4000, 10 ** 4400, 10 ** 4400 - 1, RETURNED * FAR):
            report, votes, text = with_mean(number), with_pair(number), digits(number)
            self.assertTrue(report.text == f"report 1 0-1\nmean 0 {text}\ntotal 0-1")
            self.assertTrue(votes.text == str(votes) == f"votes 3 {text} 1 1 0-3 0-3 0-3")
            self.assertTrue(report == with_mean(number) and votes == with_pair(number))
            for other in (number + 1, number - 1, number + 10 ** 100, number - 10 ** 4300, 10 * number, 3):
                self.assertFalse(report == with_mean(other))
                self.assertFalse(votes == with_pair(other))
            self.assertTrue(Report.told(report.text) == report)
            self.assertTrue(Votes.told(votes.text) == votes)

    def test_with_the_least_limit_that_python_has(self):
        limit = sys.get_int_max_str_digits()
        sys.set_int_max_str_digits(640)
        try:
            for number in (RETURNED, PRODUCTS[7], FAR):
                self.assertTrue(Report.told(with_mean(number).text) == with_mean(number))
                self.assertTrue(Votes.told(with_pair(number).text) == with_pair(number))
        finally:
            sys.set_int_max_str_digits(limit)

    def test_shelves_and_polls(self):
        shelf = Shelf()
        shelf.put("a", with_mean(FAR))
        shelf.wish("a", ("fewer", FAR))
        self.assertTrue(shelf.thing("a") == with_mean(FAR))
        self.assertTrue(shelf.wishes == (("a", ("fewer", FAR)),))
        self.assertIs(does_hold(with_mean(FAR), ("fits",)), False)
        self.assertEqual([does_fit_people(HALVES, FAR), does_fit_people(HALVES, 2 * FAR)], [True, True])


if __name__ == "__main__":
    unittest.main()
