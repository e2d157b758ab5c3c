"""Turns of boxes, and islands of boxes that turns lead between ([24])."""

from itertools import combinations

from toldcounts.boxes import boxes_of, need_box, need_few_boxes

_SIGNS = (1, -1)


def _turned(box, sides, sign):
    """The box with the numbers of eight spots changed by 1, the first one by this sign.

    The sides are the two places of these spots along each edge.
    """
    numbers = [[list(row) for row in table] for table in box]
    tables, rows, columns = sides
    for table, one in zip(tables, _SIGNS):
        for row, other in zip(rows, _SIGNS):
            for column, third in zip(columns, _SIGNS):
                # With each place that is the second one the sign changes, so neighbours are changed the other way.
                numbers[table][row][column] += sign * one * other * third
    return tuple([tuple([tuple(row) for row in table]) for table in numbers])


def _pairs_below(edge):
    return list(combinations(range(edge), 2))


def _turns(box):
    """All turns of a box, ascending."""
    found = []
    for tables in _pairs_below(len(box)):
        for rows in _pairs_below(len(box[0])):
            for columns in _pairs_below(len(box[0][0])):
                found.extend([_turned(box, (tables, rows, columns), sign) for sign in _SIGNS])
    return sorted([turn for turn in found if min([min(row) for table in turn for row in table]) >= 0])


def turns_of(faces, box):
    """All turns of the box."""
    need_few_boxes(faces)
    need_box(faces, box)
    return tuple(_turns(box))


def _island_of(box):
    """All boxes that turns lead to from this one, itself among them, as the keys of a dict."""
    found = {box: True}
    waiting = [box]
    while waiting:
        now = waiting.pop()
        for turn in _turns(now):
            if turn not in found:
                found[turn] = True
                waiting.append(turn)
    return found


def islands(faces):
    """The pairs (first box, number of boxes) of all islands."""
    seen = {}
    found = []
    for box in boxes_of(faces):
        if box not in seen:
            island = _island_of(box)
            for other in island:
                seen[other] = True
            found.append((box, len(island)))
    return tuple(found)
