"""Polls: shares of people whose number is not told ([25])."""

import itertools
import unittest

from support import STRANGE
from support_polls import HALVES, counts_by_share, many_polls, refused, shares_for, spoilt
from toldcounts.errors import InvalidCount, InvalidPeople, InvalidPlaces, InvalidShare, InvalidShares, InvalidText
from toldcounts.polls import Poll, count_stretch, poll_of

SIX = Poll(1, (0, 1, 10, 333, 1000, 999))
NO_SHARES = STRANGE + ("50", -1, 101, (50,), [50], 0 - 50, True, None)


class TheClass(unittest.TestCase):
    def test_properties(self):
        self.assertEqual((HALVES.places, HALVES.shares, HALVES.text), (0, (50, 50), "poll 0 50 50"))
        self.assertEqual((str(HALVES), len(HALVES), bool(HALVES)), (HALVES.text, 2, True))
        self.assertEqual((SIX.text, len(SIX), SIX.places), ("poll 1 0 1 10 333 1000 999", 6, 1))
        self.assertEqual(Poll(0, (0, 100)).text, "poll 0 0 100")
        for name in ("places", "shares", "text"):
            with self.assertRaises(AttributeError):
                setattr(HALVES, name, None)

    def test_equal(self):
        self.assertEqual(Poll(0, (50, 50)), HALVES)
        self.assertFalse(Poll(places=0, shares=(50, 50)) != HALVES)
        for other in (Poll(1, (50, 50)), Poll(0, (50, 51)), Poll(0, (50, 50, 50)), Poll(0, (51, 50)), HALVES.text, None):
            self.assertFalse(HALVES == other)
            self.assertTrue(HALVES != other)
        for value in STRANGE[:20]:
            self.assertIs(HALVES == value, False)

    def test_texts(self):
        for poll in (HALVES, SIX, *many_polls(301, 60, 6)):
            self.assertEqual(Poll.told(poll.text), poll)
            self.assertEqual(Poll.told(text=poll.text).shares, poll.shares)
            self.assertEqual(poll.text.split(" "), ["poll", str(poll.places), *map(str, poll.shares)])

    def test_texts_that_are_none(self):
        wrong = ["poll", "poll 0", "poll 0 50", "0 50 50", "poll 2 50 50", "poll -1 50 50", "poll 0 101 0", "poll 1 1001 0",
                 "poll 0 50 50 ", " poll 0 50 50", "poll  0 50 50", "poll 0 050 50", "poll 00 50 50", "poll 0 5O 50",
                 "poll 0 50\n50", "poll 0 50 50\n", "Poll 0 50 50", "polls 0 50 50", "poll 0 1 1 1 1 1 1 1",
                 "poll 0 50-50", "poll 0 50 -0", "poll 0 50 +1", "poll poll 0 50 50", "votes 0 50 50", "50 50 0 poll",
                 "poll 0 50,50", "poll x 50 50", "poll 0 50 50 50.", f"poll 0 {'9' * 99} 1"]
        kept = 0
        for value in wrong + spoilt(HALVES.text) + spoilt(SIX.text) + list(STRANGE):
            try:
                poll = Poll.told(value)
            except InvalidText as error:
                self.assertIs(error.given, value)
            else:
                self.assertEqual(poll.text, value)
                self.assertNotIn(value, wrong)
                kept += 1
        self.assertLess(kept, 120)
        for value in wrong:
            refused(self, InvalidText, Poll.told, value)


class Wrong(unittest.TestCase):
    def test_places(self):
        for value in STRANGE + (2, 3, "0", (0,), -1):
            self.assertIs(refused(self, InvalidPlaces, Poll, value, None).given, value)
            self.assertIs(refused(self, InvalidPlaces, poll_of, (1, 1), value).given, value)
            self.assertIs(refused(self, InvalidPlaces, count_stretch, 50, 7, value).given, value)

    def test_shares(self):
        for value in NO_SHARES:
            self.assertEqual(refused(self, InvalidShares, Poll, 0, (value,)).index, 0)
            self.assertEqual(refused(self, InvalidShares, Poll, 0, (1, value, 101)).index, 1)
            self.assertEqual(refused(self, InvalidShares, Poll, 0, (1, 2, 3, 4, 5, value)).index, 5)
            if not isinstance(value, tuple):
                self.assertIsNone(refused(self, InvalidShares, Poll, 0, value).index)
        self.assertEqual(refused(self, InvalidShares, Poll, 1, (1000, 1001)).index, 1)
        self.assertEqual(Poll(1, (101, 1000)).shares, (101, 1000))

    def test_how_many_shares(self):
        for shares in ((), (50,), (0,), [50, 50]):
            self.assertIsNone(refused(self, InvalidShares, Poll, 0, shares).index)
        for more in ((0,), (None,), (101,), (0, None)):
            self.assertEqual(refused(self, InvalidShares, Poll, 0, (1, 2, 3, 4, 5, 6) + more).index, 6)
        self.assertEqual(refused(self, InvalidShares, Poll, 0, (1, 2, 3, 101, 5, 6, 7)).index, 3)
        self.assertEqual(len(Poll(0, (1, 2, 3, 4, 5, 6))), 6)

    def test_counts(self):
        for value in STRANGE + ((), (1,), (0, 0), (0,) * 6, (1,) * 7, [1, 1], (1, -1), (1, True), (1, None), (1, "1"), 5):
            if not (isinstance(value, tuple) and len(value) == 2 and value[1].__class__ is int and value[1] > 0):
                self.assertIs(refused(self, InvalidCount, poll_of, value, None).given, value)

    def test_shares_and_people_of_a_stretch(self):
        for value in STRANGE + (1001, "50", (50,), -1):
            self.assertIs(refused(self, InvalidShare, count_stretch, value, None, None).given, value)
        for value in STRANGE + (0, "7", (7,), -7):
            if not (isinstance(value, int) and value > 1):
                self.assertIs(refused(self, InvalidPeople, count_stretch, 1000, value, None).given, value)


class Counts(unittest.TestCase):
    def test_polls_of_counts(self):
        for length, most in ((2, 13), (3, 5), (4, 2), (6, 1)):
            for counts in itertools.product(range(most + 1), repeat=length):
                for places in (0, 1):
                    if any(counts):
                        self.assertEqual(poll_of(counts, places), Poll(places, shares_for(counts, places)))
        self.assertEqual(poll_of(counts=(2, 1), places=1).text, "poll 1 667 333")

    def test_halves_go_up(self):
        self.assertEqual(poll_of((1, 199), 0).shares, (1, 100))
        self.assertEqual(poll_of((1, 1999), 1).shares, (1, 1000))
        self.assertEqual(poll_of((1, 7), 0).shares, (13, 88))
        self.assertEqual(poll_of((10 ** 99, 10 ** 99, 0), 1).shares, (500, 500, 0))

    def test_stretches(self):
        for people, places in itertools.product((1, 2, 3, 7, 40, 99, 100, 101, 200, 1000, 1234), (0, 1)):
            told = counts_by_share(people, places)
            for share in range(0, 1001, 1 if people in (1, 7, 101, 1000) else 13):
                counts = told.get(share, ())
                right = (min(counts), max(counts)) if counts else None
                self.assertEqual(count_stretch(share, people, places), right, (share, people, places))

    def test_edges_of_stretches(self):
        self.assertEqual([count_stretch(share, 1000, 0) for share in (0, 1, 99, 100, 101, 1000)],
                         [(0, 4), (5, 14), (985, 994), (995, 1000), None, None])
        self.assertEqual([count_stretch(share, 1, 1) for share in (0, 1, 500, 999, 1000)],
                         [(0, 0), None, None, None, (1, 1)])
        self.assertEqual(count_stretch(share=50, people=2 * 10 ** 90, places=0), (99 * 10 ** 88, 101 * 10 ** 88 - 1))


if __name__ == "__main__":
    unittest.main()
