"""Fillings of crosses, and the bars that show that there are none ([12], [13])."""

from toldcounts.areacounts import count_by_leaves
from toldcounts.areas import is_area
from toldcounts.crosses import as_table, need_cross, told_stretches
from toldcounts.errors import InvalidFilling
from toldcounts.networks import Network
from toldcounts.stretches import lies_in
from toldcounts.trees import parents_of
from toldcounts.values import are_numbers, wrong_at


def is_table(cross, value):
    """Whether it is a table of integers from 0 on, one for each cell."""
    if not isinstance(value, tuple) or len(value) != len(cross.cells):
        return False
    return all([are_numbers(row, len(cross.columns.leaves)) for row in value])


def is_filling(cross, value):
    """Whether it is a filling of the cross."""
    need_cross(cross)
    if not is_table(cross, value):
        return False
    for row, cells in zip(value, cross.cells):
        if not all([lies_in(number, cell) for number, cell in zip(row, cells)]):
            return False
    row_count, column_count = _side_counts(cross, value)
    return row_count is not None and column_count is not None


def _side_counts(cross, table):
    """The counts of the areas of rows and of columns with the sums of a table; None for each that there is not."""
    row_sums = tuple([sum(row) for row in table])
    column_sums = tuple([sum([row[at] for row in table]) for at in range(len(table[0]))])
    return (count_by_leaves(cross.rows, row_sums), count_by_leaves(cross.columns, column_sums))


def need_filling(cross, filling):
    if not is_filling(cross, filling):
        raise InvalidFilling(filling)


def numbers_in(cross, filling):
    """The numbers of all areas and cells in a filling, in the order of the names of the told stretches."""
    row_count, column_count = _side_counts(cross, filling)
    return [*row_count, *column_count, *[number for row in filling for number in row]]


def outside_of(cross):
    """The node of the outside: it stands behind the areas of rows and those of columns."""
    return len(cross.rows) + len(cross.columns)


def cell_places(cross):
    """The places of the cells among all flows, which are in the order of the names of the told stretches."""
    return list(range(outside_of(cross), len(cross.tolds)))


def cross_arcs(cross):
    """The arcs of the flows, in the order of the names of the told stretches ([13])."""
    many, outside = len(cross.rows), outside_of(cross)
    row_ends = [(parent, at) for at, parent in enumerate(parents_of(cross.rows))]
    row_ends[0] = (outside, 0)
    # The parent of the whole is one behind the last line, which here is the outside.
    column_ends = [(many + at, many + parent) for at, parent in enumerate(parents_of(cross.columns))]
    row_leaves = [cross.rows.names.index(name) for name in cross.rows.leaves]
    column_leaves = [many + cross.columns.names.index(name) for name in cross.columns.leaves]
    cell_ends = [(row, column) for row in row_leaves for column in column_leaves]
    ends = [*row_ends, *column_ends, *cell_ends]
    return [(*pair, *stretch) for pair, stretch in zip(ends, told_stretches(cross))]


def cross_network(cross):
    return Network(outside_of(cross) + 1, cross_arcs(cross))


def a_filling(cross):
    """Any filling, None if there is none."""
    need_cross(cross)
    network = cross_network(cross)
    if network.settle():
        return None
    return as_table(cross, network.flows()[outside_of(cross):])


def cross_bar(cross):
    """Any bar, None if there is a filling."""
    need_cross(cross)
    stuck = cross_network(cross).settle()
    if not stuck:
        return None
    many, outside = len(cross.rows), outside_of(cross)
    # More must come into these nodes than can leave them: so more must leave all others than can come in.
    rows = [name for at, name in enumerate(cross.rows.names) if at not in stuck]
    columns = [name for at, name in enumerate(cross.columns.names) if many + at not in stuck]
    return (tuple(sorted(rows)), tuple(sorted(columns)), outside not in stuck)


def _are_named(areas, value):
    """Whether it is an ascending tuple of names of the areas."""
    return isinstance(value, tuple) and wrong_at(value, lambda name: is_area(areas, name)) is None


def is_cross_bar(cross, value):
    """Whether it is a bar."""
    need_cross(cross)
    if not isinstance(value, tuple) or len(value) != 3:
        return False
    rows, columns, outside = value
    if not _are_named(cross.rows, rows) or not _are_named(cross.columns, columns) or not isinstance(outside, bool):
        return False
    many = len(cross.rows)
    named = [cross.rows.names.index(name) for name in rows]
    named.extend([many + cross.columns.names.index(name) for name in columns])
    if outside:
        named.append(outside_of(cross))
    arcs = cross_arcs(cross)
    leaving = sum([arc[2] for arc in arcs if arc[0] in named and arc[1] not in named])
    coming = sum([arc[3] for arc in arcs if arc[1] in named and arc[0] not in named])
    return leaving > coming
