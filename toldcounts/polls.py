"""Polls: the shares of people whose number is not told ([25])."""

from toldcounts.errors import InvalidCount, InvalidPlaces, InvalidShare, InvalidShares, InvalidText, NotAPoll
from toldcounts.limits import MOST_SHARES
from toldcounts.scores import nearest, need_people
from toldcounts.values import are_numbers, is_number, read_number

_LEAST_SHARES = 2
# The share of all people, with 0 and with 1 place.
_WHOLES = (100, 1000)


class Poll:
    """Some shares, with as many places; it never changes."""

    def __init__(self, places, shares):
        _need_poll_places(places)
        _need_shares(shares, whole_of(places))
        self._places = places
        self._shares = shares
        self._text = " ".join(["poll", f"{places}", *[f"{share}" for share in shares]])

    @classmethod
    def told(cls, text):
        """The poll with this text."""
        if not isinstance(text, str):
            raise InvalidText(text)
        places, *shares = [read_number(word) for word in text.removeprefix("poll ").split(" ")]
        try:
            poll = cls(places, tuple(shares))
        except (InvalidPlaces, InvalidShares):
            raise InvalidText(text) from None
        if poll.text != text:
            raise InvalidText(text)
        return poll

    @property
    def places(self):
        return self._places

    @property
    def shares(self):
        return self._shares

    @property
    def text(self):
        return self._text

    def __eq__(self, other):
        return isinstance(other, Poll) and self._text == other._text

    def __str__(self):
        return str(self._text)

    def __len__(self):
        return len(self._shares)


def whole_of(places):
    """The share of all people."""
    return _WHOLES[places]


def _need_poll_places(places):
    if not is_number(places) or places >= len(_WHOLES):
        raise InvalidPlaces(places)


def _is_share(value, whole):
    """Whether it is an integer from 0 to the share of all people."""
    return is_number(value) and value <= whole


def _need_shares(shares, whole):
    """Raises InvalidShares for what is no tuple of two to six shares."""
    if not isinstance(shares, tuple):
        raise InvalidShares(None)
    for at, share in enumerate(shares):
        if at == MOST_SHARES or not _is_share(share, whole):
            raise InvalidShares(at)
    if len(shares) < _LEAST_SHARES:
        raise InvalidShares(None)


def need_poll(poll):
    if not isinstance(poll, Poll):
        raise NotAPoll(poll)


def shares_of(counts, places):
    """The shares that these counts have."""
    people = sum(counts)
    return tuple([nearest(whole_of(places) * count, people) for count in counts])


def poll_of(counts, places):
    """The poll that counts have."""
    if not isinstance(counts, tuple) or not _LEAST_SHARES <= len(counts) <= MOST_SHARES:
        raise InvalidCount(counts)
    if not are_numbers(counts, len(counts)) or sum(counts) == 0:
        raise InvalidCount(counts)
    _need_poll_places(places)
    return Poll(places, shares_of(counts, places))


def counts_with(share, people, whole):
    """The pair of the least and the greatest count with this share of so many people, None if there is none."""
    # Rounded as it is told, a share is from half of 1 below what is told on, and less than half of 1 above it.
    least = ((2 * share - 1) * people + 2 * whole - 1) // (2 * whole)
    behind = ((2 * share + 1) * people + 2 * whole - 1) // (2 * whole)
    stretch = (max(least, 0), min(behind - 1, people))
    if stretch[0] > stretch[1]:
        return None
    return stretch


def count_stretch(share, people, places):
    """The pair of the least and the greatest count with this share of so many people, None if there is none."""
    if not _is_share(share, max(_WHOLES)):
        raise InvalidShare(share)
    need_people(people, None)
    _need_poll_places(places)
    return counts_with(share, people, whole_of(places))
