"""The profiles that votes can have ([27])."""

from toldcounts.errors import InvalidName, InvalidOrder
from toldcounts.stretches import lies_in
from toldcounts.values import are_numbers, ascending
from toldcounts.votes import LETTERS, ORDERS, firsts_of, need_votes, pairs_of, put_at


def _has_firsts(votes, profile):
    """Whether so many people put each name first as the votes tell."""
    return all([lies_in(many, stretch) for many, stretch in zip(firsts_of(profile), votes.firsts)])


def is_profile(votes, value):
    """Whether it is a profile of the votes."""
    need_votes(votes)
    if not are_numbers(value, len(ORDERS)) or sum(value) != votes.people:
        return False
    return pairs_of(value) == votes.pairs and _has_firsts(votes, value)


def _profile_with(votes, abc, acb):
    """The only six integers with the people and the pairs of the votes that begin with these two."""
    one, two, three = votes.pairs
    cab = one - abc - acb
    bac = cab - (one + three - votes.people)
    bca = acb + (two + three - votes.people)
    cba = abc - (one + two - votes.people)
    return (abc, acb, bac, bca, cab, cba)


def profiles_of(votes):
    """All profiles of the votes, ascending."""
    need_votes(votes)
    found = []
    for abc in range(votes.people + 1):
        for acb in range(votes.people + 1 - abc):
            profile = _profile_with(votes, abc, acb)
            if min(profile) >= 0 and _has_firsts(votes, profile):
                found.append(profile)
    return found


def first_profile(votes):
    """The first profile, None if there is none."""
    found = profiles_of(votes)
    if not found:
        return None
    return found[0]


def profiles_number(votes):
    """How many profiles there are."""
    return len(profiles_of(votes))


def order_numbers(votes, order):
    """How many people can have this order."""
    need_votes(votes)
    if not isinstance(order, str) or order not in ORDERS:
        raise InvalidOrder(order)
    return ascending([profile[ORDERS.index(order)] for profile in profiles_of(votes)])


def need_letter(letter):
    if not isinstance(letter, str) or letter not in LETTERS:
        raise InvalidName(letter)


def _numbers_at(votes, letter, at):
    """How many people can put this name at this place of their order."""
    need_votes(votes)
    need_letter(letter)
    return ascending([put_at(profile, letter, at) for profile in profiles_of(votes)])


def first_numbers(votes, letter):
    """How many people can put this name first."""
    return _numbers_at(votes, letter, 0)


def last_numbers(votes, letter):
    """How many people can put this name last."""
    return _numbers_at(votes, letter, len(LETTERS) - 1)
