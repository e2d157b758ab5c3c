"""Spreads: in how many ways each number comes about.

A spread is a pair (LOW, WAYS): WAYS is a list with the ways to LOW, to LOW + 1 and so on.
"""

from toldcounts.limits import MOST_LINES

JUST_NOTHING = (0, (1,))


def ways_to(spread, number):
    """In how many ways this number comes about."""
    low, ways = spread
    if low <= number < low + len(ways):
        return ways[number - low]
    return 0


def cut(spread, low, high):
    """The spread with the numbers between these two alone."""
    return (low, [ways_to(spread, number) for number in range(low, high + 1)])


def flat_spread(low, high):
    """The spread in which each number between these two comes about in one way."""
    return (low, [1] * (high - low + 1))


def turned_spread(spread):
    """The spread of the numbers with the other sign."""
    low, ways = spread
    return (1 - low - len(ways), list(reversed(ways)))


def _differences(ways):
    """By how much each of the ways, and what is behind them all, is more than the one before it."""
    inner = [later - earlier for earlier, later in zip(ways, ways[1:])]
    return [ways[0], *inner, -ways[-1]]


def _running_sums(numbers):
    found = []
    total = 0
    for number in numbers:
        total += number
        found.append(total)
    return found


def _jumps(ways):
    """A pair (TIMES, PLACES): differences taken so many times, with all places where they are not 0.

    TIMES is such that these are few. Spreads of areas are made of few pieces, each with a formula of low degree, so
    that after some times nothing but the ends of the pieces is left: sums come cheaper by these than one by one.
    """
    found = (0, [(at, way) for at, way in enumerate(ways) if way != 0])
    left = list(ways)
    for times in range(1, MOST_LINES):
        left = _differences(left)
        places = [(at, way) for at, way in enumerate(left) if way != 0]
        if len(places) < len(found[1]):
            found = (times, places)
    return found


def summed(one, other, low, high):
    """The spread of the sums of two numbers that come about apart from each other, cut to those between."""
    least = one[0] + other[0]
    times, places = _jumps(one[1])
    other_ways = list(other[1])
    size = min(len(one[1]) + len(other_ways) - 1, high - least + 1)
    found = [0] * max(0, size)
    for place, much in places:
        for at, way in enumerate(other_ways[:max(0, size - place)]):
            found[place + at] += much * way
    for _ in range(times):
        found = _running_sums(found)
    return cut((least, found), low, high)
