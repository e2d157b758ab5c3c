"""How many people a poll can be of ([25], [26])."""

import itertools
import random
import sys
import unittest

from support import STRANGE, ends
from support_polls import HALVES, NINE, all_polled, many_polls, number_polled, refused, tried_people, whole_of
from toldcounts.errors import InvalidNumber, InvalidPeople, InvalidPolls, NotAPoll
from toldcounts.pollpeople import (count_ranges, does_fit_people, first_counts, from_on, least_people, people_for,
                                   pollings_number, same_people)
from toldcounts.polls import Poll, poll_of

POLLS = many_polls(311, 90) + [HALVES, Poll(0, (33, 33, 33)), Poll(0, (0, 100)), Poll(1, (0, 0, 1000)), Poll(0, (0, 0)),
                               Poll(0, (50, 51)), Poll(0, (100, 100)), Poll(1, (500, 501)), Poll(0, (17,) * 6),
                               Poll(0, (1, 1)), Poll(0, (33, 67)), Poll(0, (34, 34, 34)), Poll(0, (99, 0, 1)),
                               Poll(0, (1, 100)), Poll(1, (1, 1000)), Poll(0, (34, 34, 33))]
# P and Q of the document, by the letter.
EVERY = (1, 2, 3, 4, 5, 6, 7, 8, 9, 11, 12, 13, 20, 49, 64)


def limits(poll):
    least = sum(2 * share - 1 for share in poll.shares if share != 0)
    return least, sum(2 * share + 1 for share in poll.shares), 2 * whole_of(poll.places)


class Small(unittest.TestCase):
    def test_counts_of_few_people(self):
        fitting = 0
        for poll, people in itertools.product(POLLS, EVERY):
            counts = all_polled(poll, people)
            fitting += len(counts) > 0
            self.assertIs(does_fit_people(poll, people), len(counts) > 0)
            self.assertEqual(pollings_number(poll, people), len(counts))
            self.assertEqual(first_counts(poll, people), counts[0] if counts else None)
            ranges = tuple(ends(numbers) for numbers in zip(*counts)) if counts else None
            self.assertEqual(count_ranges(poll, people), ranges)
        self.assertGreater(fitting, 100)

    def test_counts_of_more_people(self):
        for poll in POLLS[::2]:
            for people in (100, 101, 200, 517, 1000, 2345):
                number = number_polled(poll, people)
                self.assertEqual(pollings_number(poll, people), number)
                self.assertIs(does_fit_people(poll, people), number > 0)
                if number:
                    counts = first_counts(poll, people)
                    self.assertEqual((sum(counts), poll_of(counts, poll.places)), (people, poll))
                    if number < 3000:
                        self.assertEqual(counts, all_polled(poll, people)[0])

    def test_ranges_of_more_people(self):
        for poll in (HALVES, Poll(0, (33, 33, 33)), Poll(0, (25, 75)), Poll(0, (99, 0, 1)), Poll(0, (10, 20, 70)),
                     Poll(0, (50, 51)), Poll(0, (34, 34, 33)), Poll(0, (1, 100)), Poll(0, (33, 34, 32))):
            for people in (100, 200, 300, 451, 602):
                counts = all_polled(poll, people)
                ranges = tuple(ends(numbers) for numbers in zip(*counts)) if counts else None
                self.assertEqual(count_ranges(poll, people), ranges)


class Many(unittest.TestCase):
    def test_very_many_people(self):
        people = 2 * 10 ** 60
        self.assertEqual(count_ranges(HALVES, people), ((99 * 10 ** 58 + 1, 101 * 10 ** 58 - 1),) * 2)
        self.assertEqual(first_counts(HALVES, people), (99 * 10 ** 58 + 1, 101 * 10 ** 58 - 1))
        self.assertEqual(pollings_number(HALVES, people), 2 * 10 ** 58 - 1)
        self.assertFalse(does_fit_people(Poll(0, (100, 100)), people))
        self.assertTrue(does_fit_people(Poll(0, (50, 51)), people))
        self.assertFalse(does_fit_people(Poll(0, (50, 51)), people + 1))

    def test_numbers_of_many_counts(self):
        for poll in (Poll(0, (17, 17, 17, 17, 16, 16)), Poll(1, (167, 167, 167, 167, 166, 166)), Poll(0, (0,) * 5 + (99,))):
            for people in (6, 60, 600, 6000):
                self.assertEqual(pollings_number(poll, people), number_polled(poll, people))


class People(unittest.TestCase):
    def test_which_numbers_fit(self):
        for poll in POLLS[::3]:
            fitting = people_for(poll, 3000)
            self.assertEqual(fitting, tuple(people for people in range(1, 3001) if does_fit_people(poll, people)))
            self.assertEqual(tuple(people for people in EVERY if all_polled(poll, people)),
                             tuple(people for people in EVERY if people in fitting))
            for most in (1, 2, 17, 2999):
                self.assertEqual(people_for(poll, most), tuple(people for people in fitting if people <= most))

    def test_three_sorts_of_polls(self):
        sorts = set()
        for poll in POLLS[1::2] + POLLS[-3:] + many_polls(312, 40, 6):
            least, most, twice = limits(poll)
            told = (least_people(poll), from_on(poll))
            fitting = people_for(poll, 3000)
            if least > twice or most <= twice:
                self.assertEqual((told, fitting), ((None, None), ()))
                sorts.add("none")
            elif least == twice:
                self.assertGreater(told[0], 1)
                self.assertEqual(told, (fitting[0], None))
                self.assertEqual(fitting, tuple(range(told[0], 3001, told[0])))
                sorts.add("multiples")
            else:
                self.assertEqual(told[0], min(fitting + told[1:]))
                self.assertTrue(told[1] == 1 or not does_fit_people(poll, told[1] - 1))
                self.assertTrue(all(does_fit_people(poll, people) for people in range(told[1], told[1] + 400)))
                self.assertTrue(all(people in fitting for people in range(told[1], 3001)))
                sorts.add("all" if told[1] == 1 else "nearly all")
        self.assertEqual(sorted(sorts), ["all", "multiples", "nearly all", "none"])

    def test_the_greatest_numbers(self):
        for poll, right in ((Poll(1, (200, 200, 200, 201, 201)), 1), (Poll(1, (199, 199, 200, 200, 200)), -1)):
            least, most, twice = limits(poll)
            self.assertEqual(right, 1 if twice - least == 1 else twice - most)
            start = from_on(poll)
            self.assertGreater(start, 3000)
            self.assertFalse(does_fit_people(poll, start - 1))
            self.assertTrue(all(does_fit_people(poll, people) for people in range(start, 24001)))

    def test_one_share_off(self):
        self.assertEqual(from_on(Poll(0, (0, 100))), 1)
        self.assertEqual(least_people(Poll(0, (0, 100))), 1)
        self.assertEqual((from_on(Poll(1, (500, 501))), least_people(Poll(1, (500, 501)))), (None, 2000))
        self.assertEqual((from_on(Poll(0, (13, 88))), least_people(Poll(0, (13, 88)))), (None, 8))
        self.assertEqual(people_for(Poll(0, (13, 88)), 33), (8, 16, 24, 32))

    def test_several_polls(self):
        for polls in itertools.product(POLLS[::5], POLLS[::7]):
            right = tuple(people for people in range(1, 61) if all(does_fit_people(poll, people) for poll in polls))
            self.assertEqual(same_people(polls, 60), right)
        self.assertEqual(same_people((HALVES,), 9), (2, 4, 6, 8))
        self.assertEqual(same_people(polls=(HALVES, Poll(0, (33, 67)), Poll(0, (25, 75))), most=30), (12, 24))
        self.assertEqual(same_people((HALVES, HALVES, Poll(0, (0, 0))), 3000), ())
        self.assertEqual(same_people((HALVES,) * 9, 7), (2, 4, 6))
        self.assertEqual(same_people((HALVES, Poll(0, (1, 100)), Poll(0, (0, 100))), 3000),
                         tuple(people for people in people_for(HALVES, 3000) if does_fit_people(Poll(0, (1, 100)), people)))


def polls_around(seed, many, places, lengths):
    """Polls with shares that add up to all, nearly all, or somewhat more; some shares are 0."""
    chance, whole = random.Random(seed), whole_of(places)
    found = []
    for _ in range(many):
        length = chance.choice(lengths)
        cuts = sorted(chance.choice((0, chance.randint(0, whole), chance.randint(0, whole))) for _ in range(length - 1))
        shares = [high - low for low, high in zip([0] + cuts, cuts + [whole])]
        for _ in range(chance.choice((0, 0, 1, 1, 2, 3, 5))):
            at = chance.randrange(length)
            shares[at] = min(whole, max(0, shares[at] + chance.choice((-1, 1))))
        found.append(Poll(places, tuple(chance.sample(shares, length))))
    return found


def steps(call, *values):
    """What the call answers, and how many calls of functions this takes."""
    made = []

    def note(frame, event, what):
        if event == "call":
            made.append(frame)

    sys.setprofile(note)
    try:
        answer = call(*values)
    finally:
        sys.setprofile(None)
    return answer, len(made)


class Tried(unittest.TestCase):
    """The numbers found by what [26] tells beforehand are those that are found by trying all."""

    def check(self, polls, places, most):
        seen = set()
        for poll, right in zip(polls, tried_people(polls, places, most)):
            self.assertEqual(people_for(poll, min(most, 3000)), tuple(people for people in right if people <= 3000))
            for less in (1, 2, 3, 7, 50, 64, 65, 99, 100, 101, 199, 200, 201, 300):
                self.assertEqual(people_for(poll, less), tuple(people for people in right if people <= less), poll.text)
            self.assertEqual(least_people(poll), right[0] if right else None, poll.text)
            gaps = sorted(set(range(1, most + 1)) - set(right))
            behind = gaps[-1] + 1 if gaps else 1
            # All gaps are below 2 * U for each share, and what fits multiples alone has gaps in each stretch of 2 * U.
            self.assertEqual(from_on(poll), behind if behind <= most - 2 * whole_of(places) else None, poll.text)
            seen.add("none" if not right else "multiples" if from_on(poll) is None else "all" if not gaps else "some")
        return seen

    def test_two_shares(self):
        pairs = list(itertools.combinations_with_replacement(range(101), 2))
        near = [shares for shares in pairs if 96 <= sum(shares) <= 104]
        others = [shares[::-1] for shares in pairs if not 96 <= sum(shares) <= 104][::29]
        seen = self.check([Poll(0, shares) for shares in near + others], 0, 600)
        self.assertEqual(seen, {"none", "multiples", "all", "some"})

    def test_three_shares(self):
        triples = itertools.combinations_with_replacement(range(101), 3)
        near = [shares for shares in triples if 97 <= sum(shares) <= 103][::13]
        seen = self.check([Poll(0, shares) for shares in near], 0, 800)
        self.assertEqual(seen, {"none", "multiples", "some"})

    def test_more_shares(self):
        seen = self.check(polls_around(313, 160, 0, (4, 5, 6)) + [Poll(0, (16,) * 6), Poll(0, (17,) * 6), Poll(0, (0,) * 6)],
                          0, 1400)
        self.assertTrue({"none", "multiples", "some"} <= seen)

    def test_one_place(self):
        polls = polls_around(314, 40, 1, (2, 3, 3, 4, 6)) + [Poll(1, (333, 333, 334)), Poll(1, (500, 500)), Poll(1, (0, 1000))]
        for poll, right in zip(polls, tried_people(polls, 1, 3000)):
            self.assertEqual(people_for(poll, 3000), right)
            self.assertEqual(people_for(poll, 1234), tuple(people for people in right if people <= 1234))
            least, start = least_people(poll), from_on(poll)
            if right or least is None or least <= 3000:
                self.assertEqual(least, right[0] if right else None)
            if start is not None and start <= 3000:
                self.assertTrue(right[right.index(start):] == tuple(range(start, 3001)) and start - 1 not in right)
            elif start is not None:
                self.assertFalse(does_fit_people(poll, start - 1))
                self.assertTrue(all(does_fit_people(poll, people) for people in range(start, start + 500)))


class Long(unittest.TestCase):
    """Polls for which many numbers of people would have to be tried."""

    def test_answers(self):
        self.assertIsNone(least_people(Poll(1, (167, 167, 167, 167, 167, 500))))
        self.assertEqual(from_on(Poll(1, (167, 167, 167, 167, 166, 166))), 1398)
        self.assertIsNone(least_people(Poll(1, (333, 333, 500))))
        self.assertEqual(from_on(Poll(1, (333, 333, 334))), 1198)
        fitting = people_for(Poll(1, (500, 500)), 3000)
        self.assertEqual((len(fitting), fitting), (2500, (*range(2, 1000, 2), *range(1000, 3001))))
        self.assertEqual(people_for(Poll(1, (500, 501)), 3000), (2000,))
        self.assertEqual(people_for(Poll(1, (167, 167, 167, 167, 167, 500)), 3000), ())
        self.assertEqual((least_people(Poll(1, (499, 501))), least_people(Poll(1, (333, 333, 334)))), (335, 574))

    def test_few_numbers_are_tried(self):
        for call, values, most in ((least_people, (Poll(1, (167, 167, 167, 167, 167, 500)),), 20),
                                   (people_for, (Poll(1, (167, 167, 167, 167, 167, 500)), 3000), 30),
                                   (from_on, (Poll(1, (333, 333, 500)),), 20), (least_people, (Poll(1, (500, 501)),), 40),
                                   (from_on, (Poll(1, (500, 501)),), 30), (people_for, (Poll(1, (500, 501)), 3000), 60),
                                   (from_on, (Poll(1, (167, 167, 167, 167, 166, 166)),), 400),
                                   (from_on, (Poll(1, (333, 333, 334)),), 300),
                                   (people_for, (Poll(1, (500, 500)), 3000), 100), (least_people, (HALVES,), 60)):
            self.assertLess(steps(call, *values)[1], most, (call, values[0].text))

    def test_many_polls_of_few_people(self):
        for poll in polls_around(315, 1500, 0, (2, 3, 4)):
            least, start = least_people(poll), from_on(poll)
            if least is None:
                self.assertEqual((start, people_for(poll, 40)), (None, ()))
                continue
            fitting = people_for(poll, least + 40)
            self.assertEqual(fitting, tuple(people for people in range(1, least + 41) if does_fit_people(poll, people)))
            if start is not None:
                self.assertTrue(all(does_fit_people(poll, people) for people in range(start, start + 9)))
                self.assertTrue(start == 1 or not does_fit_people(poll, start - 1))


class Wrong(unittest.TestCase):
    def test_polls(self):
        for call in (does_fit_people, first_counts, count_ranges, pollings_number, people_for):
            for value in STRANGE + (NINE, HALVES.text, (HALVES,)):
                self.assertIs(refused(self, NotAPoll, call, value, None).given, value)
        for call in (from_on, least_people):
            for value in STRANGE + (NINE, HALVES.text):
                self.assertIs(refused(self, NotAPoll, call, value).given, value)

    def test_people(self):
        for call in (does_fit_people, first_counts, count_ranges, pollings_number):
            for value in STRANGE + (0, "2", (2,)):
                if not (isinstance(value, int) and value > 1):
                    self.assertIs(refused(self, InvalidPeople, call, HALVES, value).given, value)

    def test_most(self):
        for value in STRANGE + (0, 3001, "2"):
            self.assertIs(refused(self, InvalidNumber, people_for, HALVES, value).given, value)
            self.assertIs(refused(self, InvalidNumber, same_people, (HALVES,), value).given, value)

    def test_tuples_of_polls(self):
        for value in STRANGE + (NINE, HALVES.text):
            self.assertEqual(refused(self, InvalidPolls, same_people, (value,), None).index, 0)
            self.assertEqual(refused(self, InvalidPolls, same_people, (HALVES, value, None), None).index, 1)
            if not isinstance(value, tuple):
                self.assertIsNone(refused(self, InvalidPolls, same_people, value, None).index)
        self.assertIsNone(refused(self, InvalidPolls, same_people, (), 5).index)
        self.assertIsNone(refused(self, InvalidPolls, same_people, [HALVES], 5).index)


if __name__ == "__main__":
    unittest.main()
