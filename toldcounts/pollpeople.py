"""How many people a poll can be of, and with which counts ([25], [26])."""

from math import comb, gcd

from toldcounts.errors import InvalidPolls
from toldcounts.polls import Poll, counts_with, need_poll, whole_of
from toldcounts.scores import need_most, need_people

# So many numbers of people are tried together, where it is not known how many must be tried.
_AT_ONCE = 64


def _count_stretches(poll, people):
    """The pairs of the least and the greatest count with each share alone; None if no counts have all shares."""
    whole = whole_of(poll.places)
    stretches = [counts_with(share, people, whole) for share in poll.shares]
    if None in stretches:
        return None
    if sum([low for low, _ in stretches]) > people or sum([high for _, high in stretches]) < people:
        return None
    return stretches


def _stretches_for(poll, people):
    need_poll(poll)
    need_people(people, None)
    return _count_stretches(poll, people)


def does_fit_people(poll, people):
    """Whether the poll fits so many people."""
    return _stretches_for(poll, people) is not None


def first_counts(poll, people):
    """The first counts of so many people, None if there are none."""
    stretches = _stretches_for(poll, people)
    if stretches is None:
        return None
    counts = []
    left = people - sum([low for low, _ in stretches])
    # The first counts have as much as can be at their end.
    for low, high in reversed(stretches):
        more = min(left, high - low)
        counts.append(low + more)
        left -= more
    return tuple(counts[::-1])


def count_ranges(poll, people):
    """The pairs of the least and the greatest number that each count can be, None if there are none."""
    stretches = _stretches_for(poll, people)
    if stretches is None:
        return None
    least = people - sum([high for _, high in stretches])
    most = people - sum([low for low, _ in stretches])
    return tuple([(max(low, least + high), min(high, most + low)) for low, high in stretches])


def pollings_number(poll, people):
    """How many counts of so many people there are."""
    stretches = _stretches_for(poll, people)
    if stretches is None:
        return 0
    # For each lot of counts that are above their greatest ones: how much is left then, taken off if the lot is odd.
    lots = [(1, people - sum([low for low, _ in stretches]))]
    for low, high in stretches:
        lots = [*lots, *[(-sign, left - (high - low + 1)) for sign, left in lots]]
    others = len(stretches) - 1
    return sum([sign * comb(left + others, others) for sign, left in lots if left >= 0])


def _twice(poll):
    """The 2 * U of [26]."""
    return 2 * whole_of(poll.places)


def _leasts(poll):
    """For each share other than 0: of how many parts a count with it has at least, 2 * U parts being all people."""
    return [2 * share - 1 for share in poll.shares if share > 0]


def _behinds(poll):
    """For each share: of how many such parts a count with it has less."""
    return [2 * share + 1 for share in poll.shares]


def _fits_none(poll):
    """Whether the poll fits no number of people."""
    twice = _twice(poll)
    return sum(_leasts(poll)) > twice or sum(_behinds(poll)) <= twice


def _fits_multiples(poll):
    """Whether a poll that fits some number of people fits just all multiples of one number."""
    return sum(_leasts(poll)) == _twice(poll)


def _multiplied(poll):
    """The number of which such a poll fits all multiples: the least one with which no least count is rounded up."""
    twice = _twice(poll)
    common = twice
    for part in _leasts(poll):
        common = gcd(common, part)
    return twice // common


def _behind_gaps(poll):
    """A number of people such that from it on the poll fits all numbers, if it fits all from some number on.

    With P and Q as in [26] and k shares, m of them other than 0, the least counts of N people add up to at most
    (P * N + m * (2 * U - 1)) / (2 * U); this is N + 1 or more only if (2 * U - P) * N is at most (m - 1) * 2 * U - m.
    The greatest counts add up to at least Q * N / (2 * U) - k; this is N - 1 or less only if (Q - 2 * U) * N is at most
    (k - 1) * 2 * U. All other numbers add up.
    """
    twice, leasts, behinds = _twice(poll), _leasts(poll), _behinds(poll)
    last_above = ((len(leasts) - 1) * twice - len(leasts)) // (twice - sum(leasts))
    last_below = (len(behinds) - 1) * twice // (sum(behinds) - twice)
    return max(last_above, last_below) + 1


def _rounded_up(parts, people, twice):
    """For each of these, how many people so many parts are, rounded up."""
    return [-(-part * people // twice) for part in parts]


def _adds_up(poll, people):
    """Whether the least counts add up to at most so many people, and the greatest ones to at least so many.

    The poll fits exactly the numbers for which this is so. Below U people no share has two counts, and one that has
    none has a greatest count that is 1 below its least one; so the sums are right only if each share has one. From U
    people on each share has a count. (The greatest one with the share U may be above all people here, which changes
    nothing.)
    """
    twice, behinds = _twice(poll), _behinds(poll)
    if sum(_rounded_up(_leasts(poll), people, twice)) > people:
        return False
    return sum(_rounded_up(behinds, people, twice)) >= people + len(behinds)


def _passing(parts, twice, over, numbers):
    """For each of the numbers, and so many over: with how many people the parts, rounded up, first add up to more.

    The numbers are told by a pair, the first one and the one behind the last one. What is below the first one is told
    as 0, what is above the last one as the one behind it.
    """
    first, behind = numbers
    before = _rounded_up(parts, first - 1, twice)
    # What they add up to grows by 1 at each of these numbers, by more where one stands there several times.
    turns = sorted([count * twice // part + 1 for part, begun in zip(parts, before)
                    for count in range(begun, -(-part * (behind - 1) // twice))])
    at = first + over - sum(before)
    return [*[0] * -at, *turns, *[behind] * (at + behind - first)][max(0, at):]


def _fitting(poll, first, behind):
    """All numbers of people that the poll fits, from the first one on and below the other one.

    They are those that add up; to try them one behind another takes longer.
    """
    twice, behinds = _twice(poll), _behinds(poll)
    too_many = _passing(_leasts(poll), twice, 0, (first, behind))
    enough = _passing(behinds, twice, len(behinds) - 1, (first, behind))
    return [people for people, low, high in zip(range(first, behind), enough, too_many) if low <= people < high]


def people_for(poll, most):
    """All numbers of people up to the most that the poll fits."""
    need_poll(poll)
    need_most(most)
    first = least_people(poll)
    if first is None or first > most:
        return ()
    if _fits_multiples(poll):
        return tuple(range(first, most + 1, first))
    behind = min(_behind_gaps(poll), most + 1)
    return tuple([*_fitting(poll, first, behind), *list(range(behind, most + 1))])


def from_on(poll):
    """The least number of people from which on the poll fits all, None if there is none."""
    need_poll(poll)
    if _fits_none(poll) or _fits_multiples(poll):
        return None
    behind = _behind_gaps(poll)
    while behind > 1:
        first = max(1, behind - _AT_ONCE)
        gaps = sorted(set(list(range(first, behind))) - set(_fitting(poll, first, behind)))
        if gaps:
            return gaps[-1] + 1
        behind = first
    return 1


def _with_counts(parts, people, twice):
    """The least number of people from this one on with which each share with such least parts has a count."""
    before = 0
    while before < people:
        before = people
        for part in parts:
            count = -(-part * people // twice)
            # With more people the least count is never less, so there must be enough people for this one.
            people = max(people, count * twice // (part + 2) + 1)
    return people


def least_people(poll):
    """The least number of people that the poll fits, None if there is none."""
    need_poll(poll)
    if _fits_none(poll):
        return None
    if _fits_multiples(poll):
        return _multiplied(poll)
    twice, leasts = _twice(poll), _leasts(poll)
    people = _with_counts(leasts, 1, twice)
    while not _adds_up(poll, people):
        # With more people the least counts never add up to less.
        more = max(people + 1, sum(_rounded_up(leasts, people, twice)))
        people = _with_counts(leasts, more, twice)
    return people


def same_people(polls, most):
    """All numbers of people up to the most that all polls fit."""
    if not isinstance(polls, tuple) or len(polls) == 0:
        raise InvalidPolls(None)
    for at, poll in enumerate(polls):
        if not isinstance(poll, Poll):
            raise InvalidPolls(at)
    need_most(most)
    fitting = people_for(polls[0], most)
    for poll in polls[1:]:
        fitting = sorted(set(fitting) & set(people_for(poll, most)))
    return tuple(fitting)
