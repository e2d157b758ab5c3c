"""The ranges of areas, and what they make needless ([9])."""

from toldcounts.areas import index_of_area, need_areas, stretches_of, told_anew
from toldcounts.errors import NoData
from toldcounts.limits import MOST_NUMBER
from toldcounts.trees import parts_of, tree_ranges


def area_range(areas, name):
    """The least and the greatest number that the area has in all counts."""
    need_areas(areas)
    at = index_of_area(areas, name)
    return area_ranges(areas)[at]


def area_ranges(areas):
    """The ranges of all lines."""
    need_areas(areas)
    ranges = tree_ranges(parts_of(areas), stretches_of(areas))
    if ranges is None:
        raise NoData()
    return tuple(ranges)


def tight_areas(areas):
    """The areas with their ranges as stretches."""
    return told_anew(areas, area_ranges(areas))


def needless_lines(areas):
    """The names of all areas whose lines the others make needless, each by itself."""
    need_areas(areas)
    parts = parts_of(areas)
    return tuple([name for at, name in enumerate(areas.names) if _is_needless(areas, parts, at)])


def _is_needless(areas, parts, at):
    """Whether the range that the area has without its own stretch lies in this stretch."""
    stretches = stretches_of(areas)
    low, high = stretches[at]
    stretches[at] = (0, MOST_NUMBER)
    ranges = tree_ranges(parts, stretches)
    return ranges is None or low <= ranges[at][0] <= ranges[at][1] <= high
