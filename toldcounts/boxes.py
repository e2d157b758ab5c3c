"""Boxes for faces ([22])."""

from toldcounts.errors import InvalidBox, InvalidIndex, TooMany
from toldcounts.faces import is_box_with, need_faces, sums_of_box
from toldcounts.limits import MOST_FACE
from toldcounts.values import is_number


def need_small_front(front):
    """Raises TooMany for a front of which the numbers add up to more than 12."""
    total = sum([sum(row) for row in front])
    if total > MOST_FACE:
        raise TooMany(total)


def need_few_boxes(faces):
    """Raises NotFaces, or TooMany for faces of which the boxes are not told."""
    need_faces(faces)
    need_small_front(faces.front)


def _rows_with(total, limits):
    """All rows with this sum and numbers within the limits, ascending."""
    if len(limits) == 1:
        return [(total,) for _ in range(int(total <= limits[0]))]
    found = []
    for number in range(min(total, limits[0]) + 1):
        found.extend([(number, *rest) for rest in _rows_with(total - number, limits[1:])])
    return found


def tables_with(row_sums, column_sums):
    """All tables of integers from 0 on with these sums of their rows and columns, ascending."""
    if len(row_sums) == 0:
        return [() for _ in range(int(sum(column_sums) == 0))]
    found = []
    for row in _rows_with(row_sums[0], column_sums):
        left = [limit - number for limit, number in zip(column_sums, row)]
        found.extend([(row, *rest) for rest in tables_with(row_sums[1:], left)])
    return found


def _boxes_with(front, side, top):
    """All boxes with these faces, ascending."""
    if len(front) == 0:
        return [() for _ in range(int(not any([any(row) for row in top])))]
    found = []
    for table in tables_with(front[0], side[0]):
        left = [[most - number for most, number in zip(*rows)] for rows in zip(top, table)]
        if all([number >= 0 for row in left for number in row]):
            found.extend([(table, *rest) for rest in _boxes_with(front[1:], side[1:], left)])
    return found


def boxes_of(faces):
    """All boxes for the faces, ascending."""
    need_few_boxes(faces)
    return _boxes_with(faces.front, faces.side, faces.top)


def is_box_for(faces, value):
    """Whether it is a box for the faces, also where these have too many boxes to be told."""
    return is_box_with(faces.edges, value) and sums_of_box(value) == (faces.front, faces.side, faces.top)


def is_box(faces, value):
    """Whether it is a box for the faces."""
    need_few_boxes(faces)
    return is_box_for(faces, value)


def need_box(faces, box):
    if not is_box_for(faces, box):
        raise InvalidBox(box)


def first_box(faces):
    """The first box, None if there is none."""
    found = boxes_of(faces)
    if not found:
        return None
    return found[0]


def last_box(faces):
    """The last box, None if there is none."""
    found = boxes_of(faces)
    if not found:
        return None
    return found[-1]


def boxes_number(faces):
    """How many boxes there are."""
    return len(boxes_of(faces))


def box_at(faces, index):
    """The box with this index, all of them ascending."""
    found = boxes_of(faces)
    if not is_number(index) or index >= len(found):
        raise InvalidIndex(index)
    return found[index]


def index_of_box(faces, box):
    """The index of the box, all of them ascending."""
    found = boxes_of(faces)
    need_box(faces, box)
    return found.index(box)
