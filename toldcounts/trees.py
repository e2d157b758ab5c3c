"""What areas can have, line by line: parts are the indexes of the lines that lie directly in each line.

A line stands behind the one in which it lies, so going backwards meets what lies in an area ahead of the area.
"""


def parents_of(areas):
    """For each line, the index of the line in which it lies directly; for the whole, one behind the last line."""
    names = areas.names
    inner_parents = [names.index(line[1]) for line in areas.lines[1:]]
    return [len(names), *inner_parents]


def parts_of(areas):
    """For each line, the indexes of the lines of the areas that lie in it directly."""
    parts = [[] for _ in areas.names]
    for at, parent in enumerate(parents_of(areas)):
        if at > 0:
            parts[parent].append(at)
    return parts


def upward_ranges(parts, stretches):
    """The ranges that each area has by what lies in it and by its own stretch; None if one has none."""
    found = list(stretches)
    for at in reversed(range(len(parts))):
        if parts[at]:
            low = max(stretches[at][0], sum([found[part][0] for part in parts[at]]))
            high = min(stretches[at][1], sum([found[part][1] for part in parts[at]]))
            if low > high:
                return None
            found[at] = (low, high)
    return found


def tree_ranges(parts, stretches):
    """The ranges of all areas; None if there is no count."""
    upward = upward_ranges(parts, stretches)
    if upward is None:
        return None
    found = list(upward)
    for at in range(len(parts)):
        low, high = found[at]
        least = sum([upward[part][0] for part in parts[at]])
        most = sum([upward[part][1] for part in parts[at]])
        for part in parts[at]:
            part_low, part_high = upward[part]
            found[part] = (max(part_low, low - (most - part_high)), min(part_high, high - (least - part_low)))
    return found
