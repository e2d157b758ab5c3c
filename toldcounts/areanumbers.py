"""How many counts there are, and which index each of them has ([7]).

They are not gone through one by one: for each area it is told in how many ways its number can be dealt out in it.
"""

from toldcounts.areacounts import need_count
from toldcounts.areas import index_of_area, need_areas, stretches_of
from toldcounts.errors import InvalidIndex
from toldcounts.limits import MOST_NUMBER
from toldcounts.spreads import JUST_NOTHING, cut, flat_spread, summed, turned_spread, ways_to
from toldcounts.trees import parents_of, parts_of, tree_ranges
from toldcounts.values import is_number


def _ranges_of(areas):
    return tree_ranges(parts_of(areas), stretches_of(areas))


def _spreads_of(parts, ranges):
    """For each line, the spread of its numbers within it, and that of all that lies behind it in the same area."""
    spreads = [flat_spread(low, high) for low, high in ranges]
    # What the whole leaves over of the greatest number may be anything, so it is dealt out as a part is.
    rests = [flat_spread(0, MOST_NUMBER) for _ in ranges]
    for at in reversed(range(len(ranges))):
        if parts[at]:
            low, high = ranges[at]
            rest = JUST_NOTHING
            for part in reversed(parts[at]):
                rests[part] = rest
                rest = summed(spreads[part], rest, 0, high)
            spreads[at] = cut(rest, low, high)
    return (spreads, rests)


def counts_number(areas):
    """How many counts there are."""
    need_areas(areas)
    ranges = _ranges_of(areas)
    if ranges is None:
        return 0
    spreads, _ = _spreads_of(parts_of(areas), ranges)
    return sum(spreads[0][1])


def _choices(spread, rest, over):
    """The pairs (number of a line, in how many ways it and what lies behind it take up all that is over)."""
    low, ways = spread
    return [(low + at, way * ways_to(rest, over - low - at)) for at, way in enumerate(ways)]


def _ways_in(choices):
    return sum([ways for _, ways in choices])


def _chosen(choices, times, left):
    """The choice in which the index lies that is left, if each way comes so many times; the index within it."""
    at = 0
    while left >= times * choices[at][1]:
        left -= times * choices[at][1]
        at += 1
    return (choices[at], left)


def count_at(areas, index):
    """The count with this index, all of them ascending."""
    need_areas(areas)
    ranges = _ranges_of(areas)
    if not is_number(index) or ranges is None:
        raise InvalidIndex(index)
    spreads, rests = _spreads_of(parts_of(areas), ranges)
    number = sum(spreads[0][1])
    if index >= number:
        raise InvalidIndex(index)
    over = [MOST_NUMBER] * (len(areas) + 1)
    left = index
    found = []
    for at, parent in enumerate(parents_of(areas)):
        choices = _choices(spreads[at], rests[at], over[parent])
        # Whatever is chosen here, what else is to be dealt out goes on in the same number of ways.
        times = number // _ways_in(choices)
        (chosen, ways), left = _chosen(choices, times, left)
        number = times * ways
        over[parent] -= chosen
        over[at] = chosen
        found.append(chosen)
    return tuple(found)


def index_of_count(areas, count):
    """The index of the count, all of them ascending."""
    need_areas(areas)
    need_count(areas, count)
    spreads, rests = _spreads_of(parts_of(areas), _ranges_of(areas))
    number = sum(spreads[0][1])
    over = [MOST_NUMBER] * (len(areas) + 1)
    before = 0
    for at, parent in enumerate(parents_of(areas)):
        choices = _choices(spreads[at], rests[at], over[parent])
        times = number // _ways_in(choices)
        before += times * _ways_in([choice for choice in choices if choice[0] < count[at]])
        number = times * _ways_in([choice for choice in choices if choice[0] == count[at]])
        over[parent] -= count[at]
        over[at] = count[at]
    return before


def area_numbers(areas, name):
    """The pairs (number, how many counts have it there), numbers ascending."""
    need_areas(areas)
    at = index_of_area(areas, name)
    ranges = _ranges_of(areas)
    if ranges is None:
        return ()
    spreads, _ = _spreads_of(parts_of(areas), ranges)
    outer = _outer_spread(areas, ranges, spreads, at)
    low, ways = spreads[at]
    pairs = [(low + more, way * ways_to(outer, low + more)) for more, way in enumerate(ways)]
    return tuple([pair for pair in pairs if pair[1] > 0])


def _outer_spread(areas, ranges, spreads, at):
    """The spread of the numbers that this line can have by all that does not lie in it."""
    low, high = ranges[at]
    if at == 0:
        return flat_spread(low, high)
    parent = parents_of(areas)[at]
    outer = _outer_spread(areas, ranges, spreads, parent)
    for part in parts_of(areas)[parent]:
        if part != at:
            outer = summed(outer, turned_spread(spreads[part]), low, ranges[parent][1])
    return cut(outer, low, high)
