"""What others work out of hidden areas, and what else must be hidden ([10])."""

from itertools import combinations

from toldcounts.areacounts import need_count
from toldcounts.areas import index_of_area, is_area, need_areas, stretches_of
from toldcounts.errors import InvalidNames, InvalidNumber
from toldcounts.trees import parts_of, tree_ranges
from toldcounts.values import holds_one, is_integer, wrong_at


def need_areas_named(areas, names):
    """Raises InvalidNames for what is no ascending tuple of names of the areas."""
    if not isinstance(names, tuple):
        raise InvalidNames(None)
    at = wrong_at(names, lambda name: is_area(areas, name))
    if at is not None:
        raise InvalidNames(at)


def need_width(width):
    if not is_integer(width) or width < 1:
        raise InvalidNumber(width)


def _need_page(areas, count, hidden):
    need_areas(areas)
    need_count(areas, count)
    need_areas_named(areas, hidden)


def _guesses(areas, count, hidden):
    """The guesses for all lines."""
    stretches = stretches_of(areas)
    for at, name in enumerate(areas.names):
        if name not in hidden:
            stretches[at] = (count[at], count[at])
    return tree_ranges(parts_of(areas), stretches)


def area_guess(areas, count, hidden, name):
    """The range of the area in all that others know."""
    _need_page(areas, count, hidden)
    at = index_of_area(areas, name)
    return _guesses(areas, count, hidden)[at]


def worked_out_areas(areas, count, hidden):
    """The names of the hidden areas that are worked out."""
    _need_page(areas, count, hidden)
    return tuple([name for name in hidden if not _are_safe(areas, count, hidden, (name,), 1)])


def _are_safe(areas, count, hidden, some, width):
    """Whether all these areas are hidden, and safe by the width."""
    guesses = _guesses(areas, count, hidden)
    for name in some:
        low, high = guesses[index_of_area(areas, name)]
        if name not in hidden or high - low < width:
            return False
    return True


def is_safe_area(areas, count, hidden, name, width):
    """Whether the area is hidden, and safe by the width."""
    _need_page(areas, count, hidden)
    index_of_area(areas, name)
    need_width(width)
    return _are_safe(areas, count, hidden, (name,), width)


def least_area_covers(areas, count, hidden, some, width):
    """All least covers of some areas: those with fewer names first, those with equally many ascending."""
    _need_page(areas, count, hidden)
    need_areas_named(areas, some)
    need_width(width)
    shown = sorted([name for name in areas.names if name not in hidden])
    covers = []
    for many in range(len(shown) + 1):
        wider = [more for more in combinations(shown, many) if not holds_one(more, covers)]
        covers.extend([more for more in wider if _are_safe(areas, count, (*hidden, *more), some, width)])
    return tuple(covers)
