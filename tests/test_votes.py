"""Votes: who is put ahead of whom by how many ([27])."""

import unittest

from support import STRANGE
from support_polls import (NINE, OPEN_NINE, has_votes, many_votes, pairs_for, profiles_with, put_first, refused, spoilt)
from toldcounts.errors import InvalidFirsts, InvalidPairs, InvalidPeople, InvalidProfile, InvalidText
from toldcounts.votes import Votes, votes_of

FIRSTS = ((0, 9), (0, 9), (2, 2))
LARGE = Votes(60, (61, 0, 10 ** 99), ((0, 4000), (4000, 4000), (0, 0)))
NO_STRETCHES = STRANGE + (5, (3, 2), (0, 4001), (1, 2, 3), [0, 9], "0-9", (True, 1), (-1, 3), (None, None))


class TheClass(unittest.TestCase):
    def test_properties(self):
        self.assertEqual((NINE.people, NINE.pairs, NINE.firsts), (9, (5, 4, 6), FIRSTS))
        self.assertEqual((NINE.text, str(NINE), len(NINE), bool(NINE)), ("votes 9 5 4 6 0-9 0-9 2", NINE.text, 9, True))
        self.assertEqual(LARGE.text, f"votes 60 61 0 1{'0' * 99} 0-4000 4000 0")
        self.assertEqual([len(Votes(people, (0, 0, 0), FIRSTS)) for people in (1, 2, 59, 60)], [1, 2, 59, 60])
        for name in ("people", "pairs", "firsts", "text"):
            with self.assertRaises(AttributeError):
                setattr(NINE, name, None)

    def test_equal(self):
        self.assertEqual(Votes(people=9, pairs=(5, 4, 6), firsts=FIRSTS), NINE)
        self.assertFalse(Votes(9, (5, 4, 6), FIRSTS) != NINE)
        for other in (OPEN_NINE, Votes(8, (5, 4, 6), FIRSTS), Votes(9, (5, 6, 4), FIRSTS), NINE.text, None, 9,
                      Votes(9, (5, 4, 6), FIRSTS[::-1])):
            self.assertFalse(NINE == other)
            self.assertTrue(NINE != other)
        for value in STRANGE[:20]:
            self.assertIs(NINE == value, False)

    def test_texts(self):
        for votes in (NINE, OPEN_NINE, LARGE, *[votes for votes, _ in many_votes(321, 60)]):
            self.assertEqual(Votes.told(votes.text), votes)
            self.assertEqual(Votes.told(text=votes.text).firsts, votes.firsts)

    def test_texts_that_are_none(self):
        wrong = ["votes", "votes 9", "votes 9 5 4 6 0-9 0-9", "votes 9 5 4 6 0-9 0-9 2 2", "votes 0 5 4 6 0-9 0-9 2",
                 "votes 61 5 4 6 0-9 0-9 2", "votes 9 5 4 6 0-9 0-9 2-2", "votes 9 5 4 6 9-0 0-9 2", "votes 9 5 4 -6 0-9 0-9 2",
                 "votes 9 5 4 06 0-9 0-9 2", "votes 09 5 4 6 0-9 0-9 2", "votes 9 5 4 6 00-9 0-9 2", "Votes 9 5 4 6 0-9 0-9 2",
                 "vote 9 5 4 6 0-9 0-9 2", "votes 9 5 4 6 0-9 0-9 4001", "votes 9  5 4 6 0-9 0-9 2", "votes 9 5 4 6 0-9 0-9 2 ",
                 " votes 9 5 4 6 0-9 0-9 2", "votes 9 5 4 6 0-9 0-9\n2", "votes 9 5 4 6 0-9 0-9 2\n", "9 5 4 6 0-9 0-9 2 votes",
                 "votes 9 5-6 4 6 0-9 0-9 2", "votes 1-9 5 4 6 0-9 0-9 2", "votes 9 0-9 0-9 2 5 4 6", "votes x 5 4 6 0-9 0-9 2"]
        for value in wrong:
            refused(self, InvalidText, Votes.told, value)
        kept = 0
        for value in spoilt(NINE.text) + spoilt(OPEN_NINE.text) + list(STRANGE):
            try:
                votes = Votes.told(value)
            except InvalidText as error:
                self.assertIs(error.given, value)
            else:
                self.assertEqual(votes.text, value)
                kept += 1
        self.assertLess(kept, 90)

    def test_votes_of_profiles(self):
        for people in range(1, 5):
            for profile in profiles_with(people):
                votes = votes_of(profile)
                firsts = put_first(profile)
                self.assertEqual((votes.people, votes.pairs), (people, pairs_for(profile)))
                self.assertEqual(votes.firsts, tuple((many, many) for many in firsts))
                self.assertTrue(has_votes(votes, profile))
        self.assertEqual(votes_of(profile=(60, 0, 0, 0, 0, 0)).text, "votes 60 60 60 0 60 0 0")
        self.assertEqual(votes_of((1, 2, 4, 8, 16, 20)).text, "votes 51 19 13 44 3 12 36")


class Wrong(unittest.TestCase):
    def test_people(self):
        for value in STRANGE + (0, 61, 10 ** 20, "9", (9,), -9):
            self.assertIs(refused(self, InvalidPeople, Votes, value, None, None).given, value)

    def test_pairs(self):
        for value in STRANGE + ((), (1,), (1, 2), (1, 2, 3, 4), [1, 2, 3], (1, 2, -1), (1, True, 2), (1, 2, None), "1 2 3",
                                (1, 2, (3,)), ("1", 2, 3), (False, 0, 0)):
            self.assertIs(refused(self, InvalidPairs, Votes, 60, value, None).given, value)

    def test_firsts(self):
        for value in NO_STRETCHES:
            for at in range(3):
                self.assertEqual(refused(self, InvalidFirsts, Votes, 9, (5, 4, 6), ((0, 9),) * at + (value,)).index, at)
                more = ((0, 9),) * at + (value, None, (1, 1))
                self.assertEqual(refused(self, InvalidFirsts, Votes, 9, (5, 4, 6), more).index, at)
            if not isinstance(value, tuple):
                self.assertIsNone(refused(self, InvalidFirsts, Votes, 9, (5, 4, 6), value).index)
            self.assertEqual(refused(self, InvalidFirsts, Votes, 9, (5, 4, 6), FIRSTS + (value,)).index, 3)
        self.assertEqual(refused(self, InvalidFirsts, Votes, 9, (5, 4, 6), FIRSTS + FIRSTS).index, 3)
        for value in ((), FIRSTS[:1], FIRSTS[:2], list(FIRSTS)):
            self.assertIsNone(refused(self, InvalidFirsts, Votes, 9, (5, 4, 6), value).index)

    def test_profiles(self):
        for value in STRANGE + ((0,) * 6, (61, 0, 0, 0, 0, 0), (11, 10, 10, 10, 10, 10), (1,) * 5, (1,) * 7, [1] * 6,
                                (1, 1, 1, 1, 1, -1), (1, 1, 1, 1, 1, True), (1, 1, 1, 1, 1, None), "111111", (1, 0, 0, 0, 0, "0")):
            self.assertIs(refused(self, InvalidProfile, votes_of, value).given, value)


if __name__ == "__main__":
    unittest.main()
