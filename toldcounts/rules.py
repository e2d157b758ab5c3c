"""Who wins by which rule ([28])."""

from toldcounts.errors import InvalidRule
from toldcounts.profiles import need_letter, profiles_of
from toldcounts.votes import LETTERS, firsts_of, need_profile, need_votes, put_ahead, put_at

_RULES = ("firsts", "lasts", "points", "pairs")


def _need_rule(rule):
    if not isinstance(rule, str) or rule not in _RULES:
        raise InvalidRule(rule)


def _worths(profile, rule):
    """What each name has by a rule other than pairs; those that have most win."""
    firsts = firsts_of(profile)
    lasts = [put_at(profile, letter, len(LETTERS) - 1) for letter in LETTERS]
    if rule == "firsts":
        return firsts
    if rule == "lasts":
        return [-many for many in lasts]
    # Two for each first place and one for each second one are one for each of the people, and this more.
    return [first - last for first, last in zip(firsts, lasts)]


def _is_ahead(profile, letter):
    """Whether against each other name at least as many people put it ahead as behind."""
    others = [other for other in LETTERS if other != letter]
    return all([put_ahead(profile, letter, other) >= put_ahead(profile, other, letter) for other in others])


def _winners(profile, rule):
    if rule == "pairs":
        return [letter for letter in LETTERS if _is_ahead(profile, letter)]
    worths = _worths(profile, rule)
    return [letter for letter, worth in zip(LETTERS, worths) if worth == max(worths)]


def winners(profile, rule):
    """The names that win, as one string."""
    need_profile(profile)
    _need_rule(rule)
    return "".join(_winners(profile, rule))


def _wins(votes, letter, rule):
    """For each profile of the votes, whether the name wins in it by the rule."""
    need_votes(votes)
    need_letter(letter)
    _need_rule(rule)
    return [letter in _winners(profile, rule) for profile in profiles_of(votes)]


def can_win(votes, letter, rule):
    """Whether the name wins by the rule in some profile of the votes."""
    return any(_wins(votes, letter, rule))


def surely_wins(votes, letter, rule):
    """Whether there is a profile of the votes, and the name wins by the rule in all of them."""
    wins = _wins(votes, letter, rule)
    return len(wins) > 0 and all(wins)
