"""What spots of boxes can have, and boxes of which two faces alone are told ([23], [24])."""

from toldcounts.boxes import boxes_of, need_few_boxes, need_small_front, tables_with
from toldcounts.faces import need_front_and_side, need_spot, spots_in
from toldcounts.values import ascending


def _at(box, spot):
    return box[spot[0]][spot[1]][spot[2]]


def _pair_values(boxes, spot, other_spot):
    return ascending([_at(box, spot) + _at(box, other_spot) for box in boxes])


def spot_values(faces, spot):
    """All values of a spot."""
    need_few_boxes(faces)
    need_spot(faces, spot)
    return ascending([_at(box, spot) for box in boxes_of(faces)])


def pair_values(faces, spot, other_spot):
    """All values of two spots."""
    need_few_boxes(faces)
    need_spot(faces, spot)
    need_spot(faces, other_spot)
    return _pair_values(boxes_of(faces), spot, other_spot)


def sure_spots(faces):
    """All spots that have one value."""
    boxes = boxes_of(faces)
    return tuple([spot for spot in spots_in(faces.edges) if len(set([_at(box, spot) for box in boxes])) == 1])


def _has_gap(values):
    """Whether a number is left out between the first and the last one."""
    return len(values) > 0 and values[-1] - values[0] >= len(values)


def gap_pairs(faces):
    """All pairs of spots, the first one less than the second one, whose values have a gap."""
    boxes = boxes_of(faces)
    spots = spots_in(faces.edges)
    pairs = [(spot, other) for spot in spots for other in spots if spot < other]
    return tuple([pair for pair in pairs if _has_gap(_pair_values(boxes, pair[0], pair[1]))])


def _slab_tables(front, side):
    """For each table of a box with these faces, all that it can be."""
    need_front_and_side(front, side)
    need_small_front(front)
    return [tables_with(rows, columns) for rows, columns in zip(front, side)]


def slab_boxes(front, side):
    """How many boxes there are with these two faces."""
    number = 1
    for tables in _slab_tables(front, side):
        number *= len(tables)
    return number


def _added(top, table):
    return tuple([tuple([one + other for one, other in zip(*rows)]) for rows in zip(top, table)])


def tops_number(front, side):
    """How many unlike tops the boxes with these two faces have."""
    slabs = _slab_tables(front, side)
    tops = {tuple([tuple([0 for _ in side[0]]) for _ in front[0]]): True}
    for tables in slabs:
        tops = {_added(top, table): True for top in tops for table in tables}
    return len(tops)
