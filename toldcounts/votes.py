"""Votes: how many people put one of three names ahead of another one ([27])."""

from toldcounts.errors import InvalidFirsts, InvalidPairs, InvalidPeople, InvalidProfile, InvalidText, NotVotes
from toldcounts.limits import MOST_VOTERS
from toldcounts.scores import need_people
from toldcounts.stretches import is_stretch, stretch_in_text, text_of_stretch
from toldcounts.values import are_numbers, number_text, read_number

LETTERS = ("a", "b", "c")
ORDERS = ("abc", "acb", "bac", "bca", "cab", "cba")
# Which name is put ahead of which one by the people of whom the pairs tell.
_AHEAD = (("a", "b"), ("b", "c"), ("c", "a"))
_WORDS = 8


class Votes:
    """So many people, pairs, and stretches for how many put each name first; they never change."""

    def __init__(self, people, pairs, firsts):
        need_people(people, MOST_VOTERS)
        if not are_numbers(pairs, len(_AHEAD)):
            raise InvalidPairs(pairs)
        _need_firsts(firsts)
        self._people = people
        self._pairs = pairs
        self._firsts = firsts
        numbers = [number_text(number) for number in (people, *pairs)]
        self._text = " ".join(["votes", *numbers, *[text_of_stretch(stretch) for stretch in firsts]])

    @classmethod
    def told(cls, text):
        """The votes with this text."""
        if not isinstance(text, str):
            raise InvalidText(text)
        words = text.split(" ")
        if len(words) != _WORDS:
            raise InvalidText(text)
        people, *pairs = [read_number(word) for word in words[1:5]]
        try:
            votes = cls(people, tuple(pairs), tuple([stretch_in_text(word) for word in words[5:]]))
        except (InvalidPeople, InvalidPairs, InvalidFirsts):
            raise InvalidText(text) from None
        if votes.text != text:
            raise InvalidText(text)
        return votes

    @property
    def people(self):
        return self._people

    @property
    def pairs(self):
        return self._pairs

    @property
    def firsts(self):
        return self._firsts

    @property
    def text(self):
        return self._text

    def __eq__(self, other):
        return isinstance(other, Votes) and self._text == other._text

    def __str__(self):
        return str(self._text)

    def __len__(self):
        return len(range(self._people))


def _need_firsts(firsts):
    """Raises InvalidFirsts for what is no triple of stretches."""
    if not isinstance(firsts, tuple):
        raise InvalidFirsts(None)
    for at, stretch in enumerate(firsts):
        if at == len(LETTERS) or not is_stretch(stretch):
            raise InvalidFirsts(at)
    if len(firsts) < len(LETTERS):
        raise InvalidFirsts(None)


def need_votes(votes):
    if not isinstance(votes, Votes):
        raise NotVotes(votes)


def need_profile(profile):
    """Raises InvalidProfile for what is no tuple of six integers from 0 on with a sum from 1 to 60."""
    if not are_numbers(profile, len(ORDERS)) or not 1 <= sum(profile) <= MOST_VOTERS:
        raise InvalidProfile(profile)


def put_at(profile, letter, at):
    """How many people put this name at this place of their order."""
    return sum([many for many, order in zip(profile, ORDERS) if order[at] == letter])


def put_ahead(profile, letter, other):
    """How many people put this name ahead of the other one."""
    return sum([many for many, order in zip(profile, ORDERS) if order.find(letter) < order.find(other)])


def pairs_of(profile):
    """The pairs that this profile has."""
    return tuple([put_ahead(profile, letter, other) for letter, other in _AHEAD])


def firsts_of(profile):
    """How many people put each name first."""
    return [put_at(profile, letter, 0) for letter in LETTERS]


def votes_of(profile):
    """The votes of a profile."""
    need_profile(profile)
    return Votes(sum(profile), pairs_of(profile), tuple([(many, many) for many in firsts_of(profile)]))
