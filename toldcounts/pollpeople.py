"""How many people a poll can be of, and with which counts ([25], [26])."""

from math import comb

from toldcounts.errors import InvalidPolls
from toldcounts.polls import Poll, counts_with, need_poll, whole_of
from toldcounts.scores import need_most, need_people


def _count_stretches(poll, people):
    """The pairs of the least and the greatest count with each share alone; None if no counts have all shares."""
    whole = whole_of(poll.places)
    stretches = [counts_with(share, people, whole) for share in poll.shares]
    if None in stretches:
        return None
    if sum([low for low, _ in stretches]) > people or sum([high for _, high in stretches]) < people:
        return None
    return stretches


def _does_fit(poll, people):
    return _count_stretches(poll, people) is not None


def _stretches_for(poll, people):
    need_poll(poll)
    need_people(people, None)
    return _count_stretches(poll, people)


def does_fit_people(poll, people):
    """Whether the poll fits so many people."""
    return _stretches_for(poll, people) is not None


def first_counts(poll, people):
    """The first counts of so many people, None if there are none."""
    stretches = _stretches_for(poll, people)
    if stretches is None:
        return None
    counts = []
    left = people - sum([low for low, _ in stretches])
    # The first counts have as much as can be at their end.
    for low, high in reversed(stretches):
        more = min(left, high - low)
        counts.append(low + more)
        left -= more
    return tuple(counts[::-1])


def count_ranges(poll, people):
    """The pairs of the least and the greatest number that each count can be, None if there are none."""
    stretches = _stretches_for(poll, people)
    if stretches is None:
        return None
    least = people - sum([high for _, high in stretches])
    most = people - sum([low for low, _ in stretches])
    return tuple([(max(low, least + high), min(high, most + low)) for low, high in stretches])


def pollings_number(poll, people):
    """How many counts of so many people there are."""
    stretches = _stretches_for(poll, people)
    if stretches is None:
        return 0
    # For each lot of counts that are above their greatest ones: how much is left then, taken off if the lot is odd.
    lots = [(1, people - sum([low for low, _ in stretches]))]
    for low, high in stretches:
        lots = [*lots, *[(-sign, left - (high - low + 1)) for sign, left in lots]]
    others = len(stretches) - 1
    return sum([sign * comb(left + others, others) for sign, left in lots if left >= 0])


def people_for(poll, most):
    """All numbers of people up to the most that the poll fits."""
    need_poll(poll)
    need_most(most)
    return tuple([people for people in range(1, most + 1) if _does_fit(poll, people)])


def _behind_gaps(poll):
    """A number of people such that from it on the poll fits all numbers, if it fits all from some number on.

    With k shares, and P and Q as in [26], the least counts add up to less than P * N / (2 * U) + k, the greatest ones
    to Q * N / (2 * U) - k or more, or one of them is N alone. As P is less than 2 * U and Q is more, N = 2 * U * k is
    between them, and so is each greater N; from N = U on each share has a count. If P is 2 * U, the poll fits multiples
    of a number that divides 2 * U, so one below this, too.
    """
    return 2 * whole_of(poll.places) * len(poll)


def _fits_nearly_all(poll):
    """Whether the poll fits all numbers of people from some number on."""
    twice = 2 * whole_of(poll.places)
    least = sum([2 * share - 1 for share in poll.shares if share > 0])
    most = sum([2 * share + 1 for share in poll.shares])
    return least < twice < most


def from_on(poll):
    """The least number of people from which on the poll fits all, None if there is none."""
    need_poll(poll)
    if not _fits_nearly_all(poll):
        return None
    people = _behind_gaps(poll)
    while people > 1 and _does_fit(poll, people - 1):
        people -= 1
    return people


def least_people(poll):
    """The least number of people that the poll fits, None if there is none."""
    need_poll(poll)
    for people in range(1, _behind_gaps(poll) + 1):
        if _does_fit(poll, people):
            return people
    return None


def same_people(polls, most):
    """All numbers of people up to the most that all polls fit."""
    if not isinstance(polls, tuple) or len(polls) == 0:
        raise InvalidPolls(None)
    for at, poll in enumerate(polls):
        if not isinstance(poll, Poll):
            raise InvalidPolls(at)
    need_most(most)
    fitting = [people_for(poll, most) for poll in polls]
    return tuple([people for people in fitting[0] if all([people in others for others in fitting])])
