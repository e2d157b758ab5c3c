"""The profiles that votes can have ([27])."""

import itertools
import random
import unittest

from support import STRANGE
from support_polls import (HALVES, NINE, OPEN_NINE, ORDERS, has_votes, many_votes, pairs_for, profiles_with, put_first,
                           put_last, refused)
from toldcounts.errors import InvalidName, InvalidOrder, NotVotes
from toldcounts.profiles import (first_numbers, first_profile, is_profile, last_numbers, order_numbers,
                                 profiles_number)
from toldcounts.votes import Votes, votes_of

MANY = many_votes(331, 400)


def numbers(values):
    return tuple(sorted(set(values)))


class Small(unittest.TestCase):
    def test_profiles(self):
        without = 0
        for votes, profiles in MANY:
            without += not profiles
            self.assertEqual(profiles_number(votes), len(profiles))
            self.assertEqual(first_profile(votes), profiles[0] if profiles else None)
            for at, order in enumerate(ORDERS):
                self.assertEqual(order_numbers(votes, order), numbers(profile[at] for profile in profiles))
            for at, letter in enumerate("abc"):
                self.assertEqual(first_numbers(votes, letter), numbers(put_first(profile)[at] for profile in profiles))
                self.assertEqual(last_numbers(votes, letter), numbers(put_last(profile)[at] for profile in profiles))
        self.assertTrue(40 < without < 300, without)

    def test_what_is_a_profile(self):
        for votes, profiles in MANY[:30]:
            for people in (votes.people - 1, votes.people, votes.people + 1):
                for profile in profiles_with(people):
                    self.assertIs(is_profile(votes, profile), people == votes.people and profile in profiles)

    def test_pairs_alone(self):
        for people in (1, 2, 3, 4, 7):
            for pairs in itertools.product(range(people + 2), repeat=3):
                votes = Votes(people, pairs, ((0, people),) * 3)
                right = max(pairs) <= people and people <= sum(pairs) <= 2 * people
                self.assertIs(first_profile(votes) is not None, right)
                self.assertIs(profiles_number(votes) > 0, right)

    def test_all_votes_of_three_people(self):
        known = profiles_with(3)
        for pairs in itertools.product(range(4), repeat=3):
            for firsts in itertools.product(((0, 3), (1, 1), (0, 1), (2, 3)), repeat=3):
                votes = Votes(3, pairs, firsts)
                right = [profile for profile in known if has_votes(votes, profile)]
                self.assertEqual((first_profile(votes), profiles_number(votes)), (right[0] if right else None, len(right)))


class Many(unittest.TestCase):
    def test_many_people(self):
        chance = random.Random(332)
        for people in (30, 59, 60):
            for _ in range(8):
                cuts = sorted(chance.randint(0, people) for _ in range(5))
                profile = tuple(there - here for here, there in zip([0] + cuts, cuts + [people]))
                votes = votes_of(profile)
                self.assertTrue(is_profile(votes, profile))
                self.check_moves(votes, profile)
                self.check_moves(Votes(people, votes.pairs, ((0, people), (0, 4000), votes.firsts[2])), profile)

    def check_moves(self, votes, profile):
        """All profiles are led to by taking these two moves any number of times, as pairs and people stay the same."""
        found = []
        for one in range(-60, 61):
            for other in range(-60, 61):
                moved = (profile[0] + one, profile[1] + other, profile[2] - one - other, profile[3] + other,
                         profile[4] - one - other, profile[5] + one)
                if min(moved) >= 0 and has_votes(votes, moved):
                    found.append(moved)
        self.assertEqual((first_profile(votes), profiles_number(votes)), (min(found), len(found)))
        self.assertEqual(order_numbers(votes, "bac"), numbers(moved[2] for moved in found))
        self.assertEqual(last_numbers(votes, "c"), numbers(moved[0] + moved[2] for moved in found))

    def test_edges(self):
        self.assertEqual(first_profile(Votes(60, (60, 60, 0), ((0, 60),) * 3)), (60, 0, 0, 0, 0, 0))
        self.assertEqual(profiles_number(Votes(60, (30, 30, 30), ((0, 4000),) * 3)), 31 * 32 // 2)
        self.assertEqual(first_profile(Votes(60, (40, 40, 40), ((0, 4000),) * 3)), (20, 0, 0, 20, 20, 0))
        for pairs in ((61, 0, 0), (0, 0, 0), (60, 60, 1), (20, 20, 19), (10 ** 99, 0, 0), (30, 10 ** 99, 10 ** 99)):
            votes = Votes(60, pairs, ((0, 60),) * 3)
            self.assertEqual((first_profile(votes), profiles_number(votes)), (None, 0))
            self.assertEqual([order_numbers(votes, order) for order in ORDERS], [()] * 6)
            self.assertEqual([first_numbers(votes, "b"), last_numbers(votes, "b")], [(), ()])
        self.assertEqual(profiles_number(Votes(1, (1, 1, 0), ((1, 1), (0, 0), (0, 4000)))), 1)
        self.assertEqual(profiles_number(Votes(1, (1, 1, 0), ((1, 1), (1, 1), (0, 4000)))), 0)
        self.assertEqual(pairs_for((0, 0, 3, 1, 5, 0)), OPEN_NINE.pairs)


class Values(unittest.TestCase):
    def test_what_is_no_profile(self):
        right = (0, 3, 0, 4, 2, 0)
        self.assertTrue(is_profile(NINE, right))
        self.assertTrue(is_profile(votes=NINE, value=right))
        for value in STRANGE + ((0, 3, 0, 4, 2), right + (0,), list(right), (0, 3, 0, 4, 2, False), (False, 3, 0, 4, 2, 0),
                                (0, 3, 0, 4, 2, None), (1, 2, 1, 4, 1, 0), (0, 3, 0, 4, 3, 0), (1, 3, -1, 4, 1, 1),
                                (0, 0, 3, 1, 5, 0), "030420", (0, 0, 0, 0, 0, 0), ("0", 3, 0, 4, 2, 0)):
            self.assertIs(is_profile(NINE, value), False)
        self.assertIs(is_profile(votes_of((0, 1, 0, 1, 0, 0)), (0, True, 0, 1, 0, 0)), False)

    def test_wrong_votes(self):
        for value in STRANGE + (HALVES, NINE.text, (0, 3, 0, 4, 2, 0)):
            for call in (first_profile, profiles_number):
                self.assertIs(refused(self, NotVotes, call, value).given, value)
            for call in (is_profile, order_numbers, first_numbers, last_numbers):
                self.assertIs(refused(self, NotVotes, call, value, None).given, value)

    def test_wrong_orders(self):
        for value in STRANGE + ("ab", "abcd", "aab", "ABC", "bc", ("a", "b", "c"), ["abc"], ("abc",), 0, "abc "):
            self.assertIs(refused(self, InvalidOrder, order_numbers, NINE, value).given, value)

    def test_wrong_letters(self):
        for value in STRANGE + ("d", "ab", "A", "abc", ("a",), ["a"], 0, "a ", "bc"):
            for call in (first_numbers, last_numbers):
                self.assertIs(refused(self, InvalidName, call, NINE, value).given, value)


if __name__ == "__main__":
    unittest.main()
