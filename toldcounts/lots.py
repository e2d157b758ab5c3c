"""What must be watched when numbers are put into the cells of a cross: sums of rows, and of lots of cells.

A lot is a triple (ROWS, COLUMNS, STRETCH): the sum of all cells in these rows and columns must lie in the stretch.
What follows from the rest is left out, as each sum that is watched makes it longer to count fillings.
"""

from toldcounts.areas import stretches_of
from toldcounts.trees import parts_of, tree_ranges

_ANY = (0, 4000)
_ROUNDS = 4


def _both(one, other):
    return (max(one[0], other[0]), min(one[1], other[1]))


def _sum_of(pairs):
    return (sum([low for low, _ in pairs]), sum([high for _, high in pairs]))


def _columns_of(rows):
    return [list(column) for column in zip(*rows)]


def _leaf_places(areas):
    """For each leaf, the place of its line."""
    return [areas.names.index(name) for name in areas.leaves]


def _leaf_sets(areas):
    """For each line, the indexes of all leaves that lie in it; a leaf lies in itself."""
    parts = parts_of(areas)
    found = [[] for _ in parts]
    for leaf, at in enumerate(_leaf_places(areas)):
        found[at] = [leaf]
    for at in reversed(range(len(parts))):
        if parts[at]:
            found[at] = [leaf for part in parts[at] for leaf in found[part]]
    return found


def _side_ranges(areas, told, rows):
    """The ranges of areas that are told so, and whose leaves have the sums of these rows; None if that cannot be."""
    stretches = list(told)
    for at, row in zip(_leaf_places(areas), rows):
        stretches[at] = _both(stretches[at], _sum_of(row))
    if any([low > high for low, high in stretches]):
        return None
    return tree_ranges(parts_of(areas), stretches)


def _narrowed(areas, ranges, rows):
    """The rows, with each cell as narrow as the other ones and the sum of its row make it."""
    found = []
    for at, row in zip(_leaf_places(areas), rows):
        low, high = ranges[at]
        least, most = _sum_of(row)
        found.append([_both(cell, (low - most + cell[1], high - least + cell[0])) for cell in row])
    return found


def _narrow_cross(cross):
    """A triple: stretches of cells, of areas of rows, of areas of columns, in which all fillings lie.

    None if there is plainly no filling. The stretches may be wider than the ranges.
    """
    rows = [list(row) for row in cross.cells]
    row_told, column_told = stretches_of(cross.rows), stretches_of(cross.columns)
    for _ in range(_ROUNDS):
        row_told = _side_ranges(cross.rows, row_told, rows)
        if row_told is None:
            return None
        columns = _columns_of(_narrowed(cross.rows, row_told, rows))
        column_told[0] = _both(column_told[0], row_told[0])
        column_told = _side_ranges(cross.columns, column_told, columns)
        if column_told is None:
            return None
        rows = _columns_of(_narrowed(cross.columns, column_told, columns))
        row_told[0] = _both(row_told[0], column_told[0])
    row_told = _side_ranges(cross.rows, row_told, rows)
    if row_told is None or any([low > high for row in rows for low, high in row]):
        return None
    return (rows, row_told, column_told)


def _is_needless(areas, kept, rows, at):
    """Whether the sum of an area lies in its stretch by what else is kept, and by what the cells can have."""
    low, high = kept[at]
    others = list(kept)
    others[at] = _ANY
    ranges = _side_ranges(areas, others, rows)
    return ranges is not None and low <= ranges[at][0] and ranges[at][1] <= high


def _kept(areas, told, rows, places):
    """What is told, with the stretches at those of the places that are needless freed one behind another."""
    kept = list(told)
    for at in places:
        if _is_needless(areas, kept, rows, at):
            kept[at] = _ANY
    return kept


def _inner_places(areas):
    """The places of all lines that are neither leaves nor the whole."""
    return [at for at, name in enumerate(areas.names) if at > 0 and name not in areas.leaves]


def _kept_sides(cross, rows, row_told, column_told):
    """What is told of the areas of rows and of columns, without what is needless.

    Both wholes are one sum, which is kept with the rows alone.
    """
    columns = _columns_of(rows)
    column_places = [at for at in [*_leaf_places(cross.columns), *_inner_places(cross.columns)] if at > 0]
    column_kept = _kept(cross.columns, column_told, columns, column_places)
    row_kept = _kept(cross.rows, row_told, rows, [*_inner_places(cross.rows), 0])
    column_kept[0] = row_kept[0]
    if _is_needless(cross.columns, column_kept, columns, 0):
        row_kept[0] = _ANY
    row_kept = _kept(cross.rows, row_kept, rows, [at for at in _leaf_places(cross.rows) if at > 0])
    return (row_kept, column_kept)


def _lots_of(cross, row_kept, column_kept):
    """The lots that are left, but for single rows."""
    every_row, every_column = list(range(len(cross.rows.leaves))), list(range(len(cross.columns.leaves)))
    lots = []
    for at, leaves in enumerate(_leaf_sets(cross.rows)):
        if row_kept[at] != _ANY and at not in _leaf_places(cross.rows):
            lots.append((leaves, every_column, row_kept[at]))
    for at, leaves in enumerate(_leaf_sets(cross.columns)):
        if at > 0 and column_kept[at] != _ANY:
            lots.append((every_row, leaves, column_kept[at]))
    return lots


def _lowered(stretch, much):
    return (stretch[0] - much, stretch[1] - much)


def plan_of(cross, rows, columns):
    """A triple: what each cell has at least, what it can have more, and what must be watched of this.

    Its rows and columns are taken in these orders. What must be watched is a pair: windows of the rows, None for
    those that need none, and lots. The plan is None if there is plainly no filling.
    """
    narrow = _narrow_cross(cross)
    if narrow is None:
        return None
    cells = narrow[0]
    row_kept, column_kept = _kept_sides(cross, *narrow)
    lows = [[cells[row][column][0] for column in columns] for row in rows]
    wides = [[cells[row][column][1] - cells[row][column][0] for column in columns] for row in rows]
    windows = []
    for row in rows:
        window = row_kept[_leaf_places(cross.rows)[row]]
        windows.append(None if window == _ANY else _lowered(window, sum([low for low, _ in cells[row]])))
    lots = []
    for some_rows, some_columns, stretch in _lots_of(cross, row_kept, column_kept):
        least = sum([cells[row][column][0] for row in some_rows for column in some_columns])
        places = ([rows.index(row) for row in some_rows], [columns.index(column) for column in some_columns])
        lots.append((*places, _lowered(stretch, least)))
    return (lows, wides, (windows, lots))
