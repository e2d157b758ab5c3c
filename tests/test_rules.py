"""Who wins by which rule ([28])."""

import unittest

from support import STRANGE
from support_polls import HALVES, NINE, OPEN_NINE, RULES, many_votes, pairs_for, profiles_with, refused, winning
from toldcounts.errors import InvalidName, InvalidProfile, InvalidRule, NotVotes
from toldcounts.rules import can_win, surely_wins, winners
from toldcounts.votes import Votes

NO_RULES = STRANGE + ("first", "Firsts", "firsts ", "", ("firsts",), ["firsts"], 0, "pair", "points pairs", b"points")


class Small(unittest.TestCase):
    def test_winners(self):
        for people in range(1, 6):
            for profile in profiles_with(people):
                for rule in RULES:
                    self.assertEqual(winners(profile, rule), winning(profile, rule), (profile, rule))

    def test_who_can_win(self):
        for votes, profiles in many_votes(341, 300):
            for rule in RULES:
                told = [winning(profile, rule) for profile in profiles]
                for letter in "abc":
                    self.assertIs(can_win(votes, letter, rule), any(letter in won for won in told))
                    self.assertIs(surely_wins(votes, letter, rule), bool(told) and all(letter in won for won in told))

    def test_pairs_decide_alone_by_points_and_by_pairs(self):
        found = {}
        for profile in profiles_with(4):
            for rule in ("points", "pairs"):
                found.setdefault((rule, pairs_for(profile)), set()).add(winners(profile, rule))
        self.assertEqual({len(won) for won in found.values()}, {1})


class Edges(unittest.TestCase):
    def test_ties(self):
        self.assertEqual([winners((1, 0, 0, 1, 1, 0), rule) for rule in RULES], ["abc", "abc", "abc", ""])
        self.assertEqual([winners((0, 1, 1, 0, 0, 1), rule) for rule in RULES], ["abc", "abc", "abc", ""])
        self.assertEqual([winners((1, 0, 0, 0, 0, 1), rule) for rule in RULES], ["ac", "b", "abc", "abc"])
        self.assertEqual([winners((1, 0, 1, 0, 0, 0), rule) for rule in RULES], ["ab", "ab", "ab", "ab"])
        self.assertEqual([winners((60, 0, 0, 0, 0, 0), rule) for rule in RULES], ["a", "ab", "a", "a"])
        self.assertEqual(winners(profile=(0, 3, 0, 4, 2, 0), rule="points"), "c")

    def test_votes_without_a_profile(self):
        for pairs in ((10, 0, 0), (0, 0, 0), (9, 9, 1)):
            votes = Votes(9, pairs, ((0, 9),) * 3)
            for rule in RULES:
                for letter in "abc":
                    self.assertIs(can_win(votes, letter, rule), False)
                    self.assertIs(surely_wins(votes, letter, rule), False)

    def test_many_people(self):
        ring = Votes(60, (40, 40, 40), ((0, 60),) * 3)
        self.assertEqual([can_win(ring, letter, "pairs") for letter in "abc"], [False] * 3)
        self.assertEqual([surely_wins(ring, letter, "lasts") for letter in "abc"], [True] * 3)
        ring = Votes(60, (30, 30, 30), ((0, 60),) * 3)
        self.assertEqual([surely_wins(ring, letter, "pairs") for letter in "abc"], [True] * 3)
        self.assertEqual([surely_wins(ring, letter, "points") for letter in "abc"], [True] * 3)
        self.assertEqual([can_win(ring, letter, "firsts") for letter in "abc"], [True] * 3)
        self.assertEqual([surely_wins(ring, letter, "firsts") for letter in "abc"], [False] * 3)
        self.assertTrue(can_win(votes=OPEN_NINE, letter="a", rule="firsts"))
        self.assertFalse(surely_wins(votes=OPEN_NINE, letter="a", rule="firsts"))


class Wrong(unittest.TestCase):
    def test_profiles(self):
        for value in STRANGE + ((0,) * 6, (61, 0, 0, 0, 0, 0), (1,) * 5, (1,) * 7, [1] * 6, (1, 1, 1, 1, 1, True), NINE):
            self.assertIs(refused(self, InvalidProfile, winners, value, None).given, value)

    def test_rules(self):
        for value in NO_RULES:
            self.assertIs(refused(self, InvalidRule, winners, (1,) * 6, value).given, value)
            for call in (can_win, surely_wins):
                self.assertIs(refused(self, InvalidRule, call, NINE, "a", value).given, value)

    def test_votes_and_letters(self):
        for call in (can_win, surely_wins):
            for value in STRANGE + (HALVES, NINE.text, (1,) * 6):
                self.assertIs(refused(self, NotVotes, call, value, None, None).given, value)
            for value in STRANGE + ("d", "ab", "A", ("a",), 0):
                self.assertIs(refused(self, InvalidName, call, NINE, value, None).given, value)


if __name__ == "__main__":
    unittest.main()
