"""How many fillings a cross has, and which index each of them has ([12]).

They are not gone through one by one: for each number of a cell it is told in how many ways the cells behind it can be
filled then.
"""

from toldcounts.crosses import need_cell, need_cross
from toldcounts.errors import InvalidIndex, TooMany
from toldcounts.fillings import need_filling
from toldcounts.limits import MOST_COUNTED
from toldcounts.lots import plan_of
from toldcounts.tallies import Tally
from toldcounts.values import is_number


def _need_few(cross):
    """Raises NotACross, or TooMany for a cross of which the fillings are not counted."""
    need_cross(cross)
    most = cross.rows.lines[0][2][1]
    if most > MOST_COUNTED:
        raise TooMany(most)


def _orders(cross):
    """The indexes of all rows, and of all columns."""
    return (list(range(len(cross.rows.leaves))), list(range(len(cross.columns.leaves))))


def _front(index, indexes):
    """The indexes with this one put at their front."""
    return [index, *[other for other in indexes if other != index]]


def _first_numbers(cross, rows, columns):
    """The pairs (number, how many fillings have it) of the cell that is first in these orders."""
    plan = plan_of(cross, rows, columns)
    if plan is None:
        return []
    lows, wides, (windows, lots) = plan
    ways = Tally(wides, windows, lots).ways(0, 0, [[] for _ in rows])
    return [(lows[0][0] + more, many) for more, many in enumerate(ways)]


def fillings_number(cross):
    """How many fillings there are."""
    _need_few(cross)
    rows, columns = _orders(cross)
    return sum([many for _, many in _first_numbers(cross, rows, columns)])


def filling_at(cross, index):
    """The filling with this index, all of them ascending."""
    _need_few(cross)
    rows, columns = _orders(cross)
    plan = plan_of(cross, rows, columns)
    if not is_number(index) or plan is None:
        raise InvalidIndex(index)
    lows, wides, (windows, lots) = plan
    tally = Tally(wides, windows, lots)
    filled = [[] for _ in lows]
    left = index
    for row, numbers in enumerate(wides):
        for column in range(len(numbers)):
            ways = tally.ways(row, column, filled)
            # Only the first cell can have fewer ways than that: those of each later one lie in what was chosen.
            if left >= sum(ways):
                raise InvalidIndex(index)
            more = 0
            while left >= ways[more]:
                left -= ways[more]
                more += 1
            filled[row].append(more)
    return tuple([_raised(numbers, filled[row]) for row, numbers in enumerate(lows)])


def _raised(lows, numbers):
    return tuple([low + number for low, number in zip(lows, numbers)])


def index_of_filling(cross, filling):
    """The index of the filling, all of them ascending."""
    _need_few(cross)
    need_filling(cross, filling)
    rows, columns = _orders(cross)
    lows, wides, (windows, lots) = plan_of(cross, rows, columns)
    tally = Tally(wides, windows, lots)
    filled = [[] for _ in lows]
    before = 0
    for row, numbers in enumerate(filling):
        for column, number in enumerate(numbers):
            more = number - lows[row][column]
            before += sum(tally.ways(row, column, filled)[:more])
            filled[row].append(more)
    return before


def cell_numbers(cross, cell):
    """The pairs (number, how many fillings have it in the cell), numbers ascending."""
    _need_few(cross)
    need_cell(cross, cell)
    rows, columns = _orders(cross)
    pairs = _first_numbers(cross, _front(cell[0], rows), _front(cell[1], columns))
    return tuple([pair for pair in pairs if pair[1] > 0])
