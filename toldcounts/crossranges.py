"""The ranges of cells, areas and blocks of a cross, and what they make needless ([12] to [14], [16])."""

from toldcounts.areas import index_of_area
from toldcounts.crosses import cross_told_anew, index_of_told, need_cell, need_cross, told_stretches
from toldcounts.errors import InvalidCells, NoData
from toldcounts.fillings import cross_arcs, cross_network, outside_of
from toldcounts.limits import MOST_NUMBER
from toldcounts.networks import Network
from toldcounts.values import is_number, wrong_at


def _settled(cross):
    """A network with the flows of a filling."""
    network = cross_network(cross)
    if network.settle():
        raise NoData()
    return network


def told_range(cross, what):
    """The range of what this told stretch is told of."""
    at = index_of_told(cross, what)
    return _settled(cross).range_of(at)


def cell_range(cross, cell):
    """The least and the greatest number of the cell."""
    need_cross(cross)
    need_cell(cross, cell)
    return told_range(cross, ("cell", *cell))


def row_range(cross, name):
    """The least and the greatest number of an area of rows."""
    need_cross(cross)
    index_of_area(cross.rows, name)
    return told_range(cross, ("row", name))


def column_range(cross, name):
    """The least and the greatest number of an area of columns."""
    need_cross(cross)
    index_of_area(cross.columns, name)
    return told_range(cross, ("column", name))


def _need_indexes(indexes, many):
    """Raises InvalidCells for what is no ascending tuple of indexes below this number, or is empty."""
    if not isinstance(indexes, tuple) or len(indexes) == 0:
        raise InvalidCells(None)
    at = wrong_at(indexes, lambda index: is_number(index) and index < many)
    if at is not None:
        raise InvalidCells(at)


def block_range(cross, rows, columns):
    """The least and the greatest sum of all cells in these rows and columns."""
    need_cross(cross)
    _need_indexes(rows, len(cross.rows.leaves))
    _need_indexes(columns, len(cross.columns.leaves))
    network = _settled(cross)
    worths = [0] * len(cross.tolds)
    for row in rows:
        for column in columns:
            worths[index_of_told(cross, ("cell", row, column))] = 1
    most = network.most_worth(worths)
    least = -network.most_worth([-worth for worth in worths])
    return (least, most)


def sure_cells(cross):
    """The cells that have one number in all fillings."""
    need_cross(cross)
    network = _settled(cross)
    sure = []
    for at, what in enumerate(cross.tolds):
        low, high = network.range_of(at)
        if what[0] == "cell" and low == high:
            sure.append(what[1:])
    return tuple(sure)


def tight_cross(cross):
    """The cross with the ranges as stretches."""
    need_cross(cross)
    network = _settled(cross)
    return cross_told_anew(cross, [network.range_of(at) for at in range(len(cross.tolds))])


def needless_tolds(cross):
    """The names of all needless stretches, each by itself."""
    need_cross(cross)
    return tuple([what for at, what in enumerate(cross.tolds) if _is_needless(cross, at)])


def _is_needless(cross, at):
    """Whether the range without this stretch lies in it."""
    low, high = told_stretches(cross)[at]
    arcs = cross_arcs(cross)
    arcs[at] = (arcs[at][0], arcs[at][1], 0, MOST_NUMBER)
    network = Network(outside_of(cross) + 1, arcs)
    if network.settle():
        return True
    least, most = network.range_of(at)
    return low <= least and most <= high
