"""Scores of some people on a scale: told means, told spreads, totals and squares ([18], [21])."""

from toldcounts.errors import InvalidNumber, InvalidPeople, InvalidPlaces, InvalidScale
from toldcounts.limits import MOST_PEOPLE, MOST_SCORE
from toldcounts.stretches import is_stretch
from toldcounts.values import is_integer, is_number

_MOST_MEANT = 3000
# By how much what is told with 0, 1 or 2 places is greater.
_TIMES = (1, 10, 100)


def is_scale(value):
    """Whether it is a stretch with numbers to 6."""
    return is_stretch(value) and value[1] <= MOST_SCORE


def need_scale(scale):
    if not is_scale(scale):
        raise InvalidScale(scale)


def is_places(value):
    """Whether it is an integer from 0 to 2."""
    return is_number(value) and value < len(_TIMES)


def _need_places(places):
    if not is_places(places):
        raise InvalidPlaces(places)


def need_people(people, most):
    """Raises InvalidPeople for what is no integer from 1 on, or is above the most, if there is a most."""
    if not is_integer(people) or people < 1 or (most is not None and people > most):
        raise InvalidPeople(people)


def need_most(most):
    """Raises InvalidNumber for what is no integer from 1 to 3000."""
    if not is_integer(most) or not 1 <= most <= _MOST_MEANT:
        raise InvalidNumber(most)


def _need_number(number):
    if not is_number(number):
        raise InvalidNumber(number)


def nearest(number, divisor):
    """The nearest integer to the number divided by that, halves up."""
    return (2 * number + divisor) // (2 * divisor)


def mean_of(people, total, places):
    """The told mean."""
    return nearest(_TIMES[places] * total, people)


def spread_of(people, total, squares, places):
    """The told spread."""
    return nearest(_TIMES[places] * (people * squares - total * total), people * people)


def told_mean(people, total, places):
    """What is told as the mean of so many people's scores with this total."""
    need_people(people, None)
    _need_number(total)
    _need_places(places)
    return mean_of(people, total, places)


def told_spread(people, total, squares, places):
    """What is told as the spread of so many people's scores with this total and these squares."""
    need_people(people, None)
    _need_number(total)
    _need_number(squares)
    if people * squares < total * total:
        raise InvalidNumber(squares)
    _need_places(places)
    return spread_of(people, total, squares, places)


def _totals_with(people, scale, mean, places):
    """The least total with this told mean, and the least that is above all of them."""
    # Rounded as it is told, a mean is from half of 1 below what is told on, and less than half of 1 above it.
    times = 2 * _TIMES[places]
    least = ((2 * mean - 1) * people + times - 1) // times
    behind = ((2 * mean + 1) * people + times - 1) // times
    return (max(least, people * scale[0]), min(behind, people * scale[1] + 1))


def totals_for(people, scale, mean, places):
    """All totals of scores with this told mean."""
    need_people(people, _MOST_MEANT)
    need_scale(scale)
    _need_number(mean)
    _need_places(places)
    least, behind = _totals_with(people, scale, mean, places)
    return tuple(range(least, behind))


def people_for_mean(scale, mean, places, most):
    """All numbers of people up to the most that some scores with this told mean can have."""
    need_scale(scale)
    _need_number(mean)
    _need_places(places)
    need_most(most)
    found = []
    for people in range(1, most + 1):
        least, behind = _totals_with(people, scale, mean, places)
        if least < behind:
            found.append(people)
    return tuple(found)


def squares_for(people, scale, total):
    """All squares of scores with this total."""
    need_people(people, MOST_PEOPLE)
    need_scale(scale)
    _need_number(total)
    pairs = [(0, 0)]
    for _ in range(people):
        wider = [(sums + score, squares + score * score)
                 for sums, squares in pairs for score in range(scale[0], scale[1] + 1)]
        pairs = sorted(set(wider))
    return tuple([squares for sums, squares in pairs if sums == total])
