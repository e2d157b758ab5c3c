"""Counts of areas, and the bars that show that there are none ([7], [8])."""

from toldcounts.areas import index_of_area, is_area, need_areas, stretches_of
from toldcounts.errors import InvalidCount
from toldcounts.stretches import lies_in
from toldcounts.trees import parts_of, tree_ranges
from toldcounts.values import are_numbers, wrong_at


def is_count(areas, value):
    """Whether it is a count of the areas."""
    need_areas(areas)
    if not are_numbers(value, len(areas)):
        return False
    if not all([lies_in(value[at], stretch) for at, stretch in enumerate(stretches_of(areas))]):
        return False
    return all([not inner or value[at] == _total(value, inner) for at, inner in enumerate(parts_of(areas))])


def need_count(areas, count):
    if not is_count(areas, count):
        raise InvalidCount(count)


def _total(numbers, indexes):
    return sum([numbers[at] for at in indexes])


def first_count(areas):
    """The first count, None if there is none."""
    return _end_count(areas, 0)


def last_count(areas):
    """The last count, None if there is none."""
    return _end_count(areas, 1)


def _end_count(areas, end):
    """The first count if the end is 0, the last one if it is 1: each line in turn gets this end of its range."""
    need_areas(areas)
    parts = parts_of(areas)
    stretches = stretches_of(areas)
    for at in range(len(areas)):
        ranges = tree_ranges(parts, stretches)
        if ranges is None:
            return None
        stretches[at] = (ranges[at][end], ranges[at][end])
    return tuple([stretch[0] for stretch in stretches])


def count_by_leaves(areas, numbers):
    """The count with these numbers of the leaves, None if they give none."""
    need_areas(areas)
    if not are_numbers(numbers, len(areas.leaves)):
        raise InvalidCount(numbers)
    told = dict(zip(areas.leaves, numbers))
    found = [told.get(name, 0) for name in areas.names]
    parts = parts_of(areas)
    for at in reversed(range(len(areas))):
        if parts[at]:
            found[at] = _total(found, parts[at])
    count = tuple(found)
    if not is_count(areas, count):
        return None
    return count


def area_bar(areas):
    """Any bar, None if there is a count."""
    need_areas(areas)
    parts = parts_of(areas)
    told = stretches_of(areas)
    found = stretches_of(areas)
    for at in reversed(range(len(areas))):
        if not parts[at]:
            continue
        least = sum([found[part][0] for part in parts[at]])
        most = sum([found[part][1] for part in parts[at]])
        low, high = told[at]
        if least > high:
            return ("more", areas.names[at], _bar_names(areas, parts, at, [pair[0] for pair in found], 0))
        if most < low:
            return ("less", areas.names[at], _bar_names(areas, parts, at, [pair[1] for pair in found], 1))
        found[at] = (max(low, least), min(high, most))
    return None


def _bar_names(areas, parts, at, ends, side):
    """The names of areas in that one whose own LOWs (side 0) or HIGHs (side 1) add up to what its parts have."""
    names = []
    waiting = list(parts[at])
    while waiting:
        part = waiting.pop()
        if areas.lines[part][2][side] == ends[part]:
            names.append(areas.names[part])
        else:
            waiting.extend(parts[part])
    return tuple(sorted(names))


def _around(areas, name):
    """The names of all areas in which this one lies, directly or not."""
    found = []
    parent = areas.lines[index_of_area(areas, name)][1]
    while parent != "":
        found.append(parent)
        parent = areas.lines[index_of_area(areas, parent)][1]
    return found


def _are_bar_parts(areas, name, value):
    """Whether it is an ascending tuple of names of areas in that one, none of them within another one."""
    if not isinstance(value, tuple) or wrong_at(value, lambda part: is_area(areas, part)) is not None:
        return False
    for part in value:
        around = _around(areas, part)
        if name not in around or any([other in around for other in value]):
            return False
    return True


def _do_cover(areas, name, parts):
    """Whether each leaf in this area is one of the parts or lies in one."""
    for leaf in areas.leaves:
        around = _around(areas, leaf)
        if name in around and leaf not in parts and not any([part in around for part in parts]):
            return False
    return True


def is_area_bar(areas, value):
    """Whether it is a bar of the areas."""
    need_areas(areas)
    if not isinstance(value, tuple) or len(value) != 3:
        return False
    side, name, parts = value
    if not isinstance(side, str) or not is_area(areas, name) or not _are_bar_parts(areas, name, parts):
        return False
    low, high = areas.stretch(name)
    if side == "more":
        return sum([areas.stretch(part)[0] for part in parts]) > high
    if side != "less" or name in areas.leaves or not _do_cover(areas, name, parts):
        return False
    return sum([areas.stretch(part)[1] for part in parts]) < low
