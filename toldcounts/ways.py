"""Steps and ways between fillings, and corners ([14], [15])."""

from toldcounts.crosses import is_cell, need_cross
from toldcounts.fillings import cell_places, cross_arcs, is_filling, need_filling, numbers_in, outside_of
from toldcounts.firsts import first_filling
from toldcounts.networks import Network
from toldcounts.values import is_integer, wrong_at


def _are_apart(cross, value):
    """Whether it is an ascending tuple of cells, no two of them in one row or in one column."""
    if not isinstance(value, tuple) or wrong_at(value, lambda cell: is_cell(cross, cell)) is not None:
        return False
    rows = [row for row, _ in value]
    columns = [column for _, column in value]
    return len(set(rows)) == len(value) and len(set(columns)) == len(value)


def _is_step(cross, value):
    if not isinstance(value, tuple) or len(value) != 2:
        return False
    more, less = value
    if not _are_apart(cross, more) or not _are_apart(cross, less):
        return False
    return len(more) + len(less) > 0 and not any([cell in less for cell in more])


def is_step(cross, value):
    """Whether it is a step with cells of the cross."""
    need_cross(cross)
    return _is_step(cross, value)


def _done(filling, step, times):
    """The table behind this step done so often."""
    more, less = step
    table = [list(row) for row in filling]
    for row, column in more:
        table[row][column] += times
    for row, column in less:
        table[row][column] -= times
    return tuple([tuple(row) for row in table])


def _need_both(cross, filling, other):
    need_cross(cross)
    need_filling(cross, filling)
    need_filling(cross, other)


def _network_of(cross, changes):
    """A network in which each flow, at first 0, can be anything between these two."""
    arcs = [(arc[0], arc[1], *change) for arc, change in zip(cross_arcs(cross), changes)]
    network = Network(outside_of(cross) + 1, arcs)
    network.take([0] * len(arcs))
    return network


def _step_of(cross, ring):
    """The step of a ring: what its flows do to the cells."""
    cells = {at: cross.tolds[at][1:] for at in cell_places(cross)}
    more = [cells[at] for at, sign in ring if sign > 0 and at in cells]
    less = [cells[at] for at, sign in ring if sign < 0 and at in cells]
    return (tuple(sorted(more)), tuple(sorted(less)))


def way(cross, filling, other):
    """Any way from the first filling to the second one."""
    _need_both(cross, filling, other)
    left = [there - here for here, there in zip(numbers_in(cross, filling), numbers_in(cross, other))]
    found = []
    for at in cell_places(cross):
        while left[at] != 0:
            network = _network_of(cross, [(min(0, much), max(0, much)) for much in left])
            # As much leaves each area as comes in, so some ring goes on from here, each flow the right way.
            ring = network.ring_with(at, 1) or network.ring_with(at, -1)
            times = min([abs(left[part]) for part, _ in ring])
            for part, sign in ring:
                left[part] -= sign * times
            found.append((_step_of(cross, ring), times))
    return tuple(found)


def _is_pair(cross, value):
    """Whether it is a pair (step, times)."""
    if not isinstance(value, tuple) or len(value) != 2:
        return False
    step, times = value
    return _is_step(cross, step) and is_integer(times) and times >= 1


def is_way(cross, filling, other, value):
    """Whether it is a way from the first filling to the second one."""
    _need_both(cross, filling, other)
    if not isinstance(value, tuple) or not all([_is_pair(cross, pair) for pair in value]):
        return False
    more = {cell: True for (cells, _), _ in value for cell in cells}
    less = {cell: True for (_, cells), _ in value for cell in cells}
    if any([cell in less for cell in more]):
        return False
    now = filling
    for step, times in value:
        now = _done(now, step, times)
        # Between two fillings on one line there are none but fillings.
        if not is_filling(cross, now):
            return False
    return now == other


def free_step(cross, filling):
    """Any step that can be done either way, None for corners."""
    need_cross(cross)
    need_filling(cross, filling)
    changes = []
    for number, arc in zip(numbers_in(cross, filling), cross_arcs(cross)):
        free = int(arc[2] < number < arc[3])
        changes.append((-free, free))
    network = _network_of(cross, changes)
    for at in cell_places(cross):
        ring = network.ring_with(at, 1)
        if ring:
            return _step_of(cross, ring)
    return None


def is_corner(cross, filling):
    """Whether no step can be done either way from the filling."""
    return free_step(cross, filling) is None


def a_corner(cross):
    """Any corner, None if there is no filling."""
    # In the middle of two others, the first filling would be behind one of them.
    return first_filling(cross)
