"""Roundings of counts that still add up ([11])."""

from toldcounts.areacounts import count_by_leaves, is_count, need_count
from toldcounts.areas import need_areas, told_anew
from toldcounts.errors import InvalidNumber
from toldcounts.limits import MOST_BASE
from toldcounts.values import are_numbers, is_integer


def need_base(base):
    if not is_integer(base) or not 2 <= base <= MOST_BASE:
        raise InvalidNumber(base)


def _need_rounding(areas, count, base):
    need_areas(areas)
    need_count(areas, count)
    need_base(base)


def rounded_stretch(number, base):
    """The multiples of the base next to the number, below and above, divided by the base."""
    return (number // base, (number + base - 1) // base)


def _rounded_areas(areas, count, base):
    """The areas whose counts, times the base, are the roundings of the count."""
    return told_anew(areas, [rounded_stretch(number, base) for number in count])


def _roundings(areas, count, base):
    """All roundings, ascending."""
    told = dict(zip(areas.names, count))
    leaves = [()]
    for name in areas.leaves:
        low, high = rounded_stretch(told[name], base)
        leaves = [(*numbers, number) for numbers in leaves for number in range(low, high + 1)]
    rounded = _rounded_areas(areas, count, base)
    counts = [count_by_leaves(rounded, numbers) for numbers in leaves]
    return sorted([tuple([number * base for number in found]) for found in counts if found is not None])


def is_area_rounding(areas, count, base, value):
    """Whether it is a rounding of the count."""
    _need_rounding(areas, count, base)
    if not are_numbers(value, len(areas)) or any([number % base != 0 for number in value]):
        return False
    return is_count(_rounded_areas(areas, count, base), tuple([number // base for number in value]))


def first_area_rounding(areas, count, base):
    """The first rounding."""
    _need_rounding(areas, count, base)
    return _roundings(areas, count, base)[0]


def area_roundings_number(areas, count, base):
    """How many roundings there are."""
    _need_rounding(areas, count, base)
    return len(_roundings(areas, count, base))


def either_way_areas(areas, count, base):
    """The names of the areas that are below their numbers in some rounding and above in another one."""
    _need_rounding(areas, count, base)
    # Each number that is no multiple is rounded either way ([11]).
    return tuple([name for at, name in enumerate(areas.names) if count[at] % base != 0])


def _distance(areas, count, rounding):
    """How much the numbers of the leaves differ, added up."""
    return sum([abs(count[at] - rounding[at]) for at, name in enumerate(areas.names) if name in areas.leaves])


def least_distance(areas, count, base):
    """The least distance of a rounding."""
    _need_rounding(areas, count, base)
    return min([_distance(areas, count, rounding) for rounding in _roundings(areas, count, base)])


def nearest_area_rounding(areas, count, base):
    """The first rounding that has the least distance."""
    least = least_distance(areas, count, base)
    near = [rounding for rounding in _roundings(areas, count, base) if _distance(areas, count, rounding) == least]
    return near[0]
