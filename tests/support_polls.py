"""What tests of polls, votes and things share: all counts and all profiles found by trying, wrong texts and errors."""

import fractions
import functools
import itertools
import random

from support import nearest
from toldcounts.polls import Poll
from toldcounts.votes import Votes

HALVES = Poll(0, (50, 50))
NINE = Votes(9, (5, 4, 6), ((0, 9), (0, 9), (2, 2)))
OPEN_NINE = Votes(9, (5, 4, 6), ((0, 9), (0, 9), (0, 9)))
ORDERS = ("abc", "acb", "bac", "bca", "cab", "cba")
RULES = ("firsts", "lasts", "points", "pairs")


def refused(test, kind, call, *values):
    """The error of just this class that the call raises."""
    with test.assertRaises(kind) as caught:
        call(*values)
    test.assertIs(caught.exception.__class__, kind)
    return caught.exception


def spoilt(text):
    """Texts that are like this one: a sign left out, put in or exchanged, words or lines in another order."""
    found = []
    for at, sign in enumerate(text):
        found += [text[:at] + text[at + 1:], text[:at] + sign + text[at:]]
        found += [text[:at] + more + text[at:] for more in "0 -\n"]
        found += [text[:at] + other + text[at + 1:] for other in "0 9-x\n" if other != sign]
    for sign in " \n":
        words = text.split(sign)
        for at in range(len(words)):
            found += [sign.join(words[:at] + words[at + 1:]), sign.join(words[:at] + words[at:at + 1] + words[at:])]
            found.append(sign.join(words[:at] + words[at + 1:at + 2] + words[at:at + 1] + words[at + 2:]))
    found += ["", " ", "\n", f" {text}", f"{text} ", f"{text}\n", f"\n{text}", text.upper(), f"{text} 0", f"{text}\n{text}"]
    return [other for other in dict.fromkeys(found) if other != text]


def whole_of(places):
    return (100, 1000)[places]


@functools.lru_cache(maxsize=None)
def counts_by_share(people, places):
    """For each share that some count of so many people has, these counts."""
    found = {}
    for count in range(people + 1):
        share = nearest(fractions.Fraction(whole_of(places) * count, people))
        found.setdefault(share, []).append(count)
    return found


def all_polled(poll, people):
    """All counts of so many people with these shares, ascending."""
    told = counts_by_share(people, poll.places)
    tried = itertools.product(*[told.get(share, ()) for share in poll.shares])
    return [counts for counts in tried if sum(counts) == people]


def number_polled(poll, people):
    """How many counts of so many people have these shares, count by count."""
    told = counts_by_share(people, poll.places)
    numbers = {0: 1}
    for share in poll.shares:
        more = {}
        for have, many in numbers.items():
            for count in told.get(share, ()):
                more[have + count] = more.get(have + count, 0) + many
        numbers = more
    return numbers.get(people, 0)


def ends_by_share(people, places):
    """For each share that some count of so many people has, the first and the last of these counts."""
    whole, found = whole_of(places), {}
    for count in range(people + 1):
        share = (2 * whole * count + people) // (2 * people)
        found[share] = (found.get(share, (count, count))[0], count)
    return found


def tried_people(polls, places, most):
    """For each of these polls, with so many places, all numbers of people to the most that it fits, one by one."""
    found = [[] for _ in polls]
    for people in range(1, most + 1):
        told = ends_by_share(people, places)
        for poll, fitting in zip(polls, found):
            ends = [told.get(share) for share in poll.shares]
            if None not in ends and sum(low for low, _ in ends) <= people <= sum(high for _, high in ends):
                fitting.append(people)
    return [tuple(fitting) for fitting in found]


def shares_for(counts, places):
    return tuple(nearest(fractions.Fraction(whole_of(places) * count, sum(counts))) for count in counts)


def many_polls(seed, many, most_shares=4):
    """Polls of all kinds: those of counts, such with a share that is changed, and any."""
    chance = random.Random(seed)
    found = []
    while len(found) < many:
        places, length = chance.choice((0, 0, 1)), chance.randint(2, most_shares)
        counts = [chance.choice((0, 1, chance.randint(0, 30))) for _ in range(length)]
        if not any(counts):
            continue
        shares = list(shares_for(counts, places))
        kind = chance.randint(0, 5)
        if kind in (1, 2):
            at = chance.randrange(length)
            shares[at] = min(whole_of(places), max(0, shares[at] + chance.choice((-2, -1, 1, 2))))
        if kind == 3:
            shares = [chance.randint(0, whole_of(places)) for _ in range(length)]
        found.append(Poll(places, tuple(shares)))
    return found


def profiles_with(people):
    """All profiles of so many people, ascending."""
    return [profile for profile in itertools.product(range(people + 1), repeat=6) if sum(profile) == people]


def put_first(profile):
    """How many people put each name first, one who has an order after another."""
    return tuple(sum(many for many, order in zip(profile, ORDERS) if order.startswith(letter)) for letter in "abc")


def put_last(profile):
    return tuple(sum(many for many, order in zip(profile, ORDERS) if order.endswith(letter)) for letter in "abc")


def ahead(profile, letter, other):
    return sum(many for many, order in zip(profile, ORDERS) if order.index(letter) < order.index(other))


def pairs_for(profile):
    return tuple(ahead(profile, letter, other) for letter, other in ("ab", "bc", "ca"))


def has_votes(votes, profile):
    """Whether a profile of so many people has what the votes tell."""
    lie_in = all(low <= many <= high for many, (low, high) in zip(put_first(profile), votes.firsts))
    return lie_in and pairs_for(profile) == votes.pairs


def winning(profile, rule):
    """Who wins, by the words of the rules."""
    firsts, lasts = put_first(profile), put_last(profile)
    points = [sum(many * (2 - order.index(letter)) for many, order in zip(profile, ORDERS)) for letter in "abc"]
    found = ""
    for at, letter in enumerate("abc"):
        others = [other for other in range(3) if other != at]
        wins = {"firsts": all(firsts[other] <= firsts[at] for other in others),
                "lasts": all(lasts[other] >= lasts[at] for other in others),
                "points": all(points[other] <= points[at] for other in others),
                "pairs": all(ahead(profile, letter, "abc"[other]) >= ahead(profile, "abc"[other], letter)
                             for other in others)}
        found += letter if wins[rule] else ""
    return found


def many_votes(seed, many, most_people=4):
    """Pairs (votes, all their profiles), found by trying; some have none."""
    chance = random.Random(seed)
    known = {people: profiles_with(people) for people in range(1, most_people + 1)}
    found = []
    for _ in range(many):
        people = chance.randint(1, most_people)
        profile = chance.choice(known[people])
        pairs, told = list(pairs_for(profile)), []
        if chance.random() < 0.2:
            pairs[chance.randrange(3)] = chance.randint(0, people + 1)
        for first in put_first(profile):
            low = max(0, first - chance.choice((0, 0, 1, 4)))
            told.append((low, first + chance.choice((0, 0, 1, 4, 4000 - first))))
        if chance.random() < 0.1:
            low = chance.randint(0, people + 1)
            told[chance.randrange(3)] = (low, low)
        votes = Votes(people, tuple(pairs), tuple(told))
        found.append((votes, [profile for profile in known[people] if has_votes(votes, profile)]))
    return found
