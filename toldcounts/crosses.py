"""Crosses: areas of rows, areas of columns, and cells ([12])."""

from toldcounts.areas import Areas, is_area, line_texts, read_lines, stretches_of, told_anew
from toldcounts.errors import InvalidCell, InvalidCells, InvalidCount, InvalidLines, InvalidText, InvalidTold
from toldcounts.errors import NotACross, NotAreas
from toldcounts.limits import MOST_LEAVES, MOST_NUMBER, MOST_SIDE_LINES
from toldcounts.stretches import is_stretch, need_stretch, stretch_in_text, text_of_stretch
from toldcounts.values import are_numbers, is_number

_MOST_SUM = 1000
_SUM_NAMES = "abcd"


class Cross:
    """A cross, with a told stretch for each area and each cell; it never changes."""

    def __init__(self, rows, columns, cells):
        _need_side(rows)
        _need_side(columns)
        _need_cells(cells, len(rows.leaves), len(columns.leaves))
        spots = [(row, column) for row in range(len(rows.leaves)) for column in range(len(columns.leaves))]
        self._rows = rows
        self._columns = columns
        self._cells = cells
        self._text = _cross_text(rows, columns, cells)
        self._spots = tuple(spots)
        self._tolds = _tolds_of(rows, columns, spots)

    @classmethod
    def told(cls, text):
        """The cross with this text."""
        if not isinstance(text, str):
            raise InvalidText(text)
        try:
            rows = Areas(_read_side("row", text))
            columns = Areas(_read_side("column", text))
            cross = cls(rows, columns, _read_cells(text))
        except (InvalidLines, NotAreas, InvalidCells):
            raise InvalidText(text) from None
        if cross.text != text:
            raise InvalidText(text)
        return cross

    @property
    def rows(self):
        return self._rows

    @property
    def columns(self):
        return self._columns

    @property
    def cells(self):
        return self._cells

    @property
    def text(self):
        return self._text

    @property
    def tolds(self):
        return self._tolds

    def stretch(self, what):
        """The stretch with this name."""
        return told_stretches(self)[index_of_told(self, what)]

    def changed(self, what, stretch):
        """The cross with another stretch in the place of the one with this name."""
        at = index_of_told(self, what)
        need_stretch(stretch)
        stretches = told_stretches(self)
        stretches[at] = stretch
        return cross_told_anew(self, stretches)

    def __eq__(self, other):
        return isinstance(other, Cross) and self._text == other._text

    def __str__(self):
        return str(self._text)

    def __len__(self):
        return len(self._spots)


def _need_side(side):
    if not isinstance(side, Areas) or len(side) > MOST_SIDE_LINES or len(side.leaves) > MOST_LEAVES:
        raise NotAreas(side)


def _is_row(row, columns):
    """Whether it is a tuple of so many stretches."""
    return isinstance(row, tuple) and len(row) == columns and all([is_stretch(cell) for cell in row])


def _need_cells(cells, rows, columns):
    """Raises InvalidCells for what are no cells of so many rows and columns."""
    if not isinstance(cells, tuple):
        raise InvalidCells(None)
    for at, row in enumerate(cells):
        if at == rows or not _is_row(row, columns):
            raise InvalidCells(at)
    if len(cells) < rows:
        raise InvalidCells(len(cells))


def _cross_text(rows, columns, cells):
    words = [[text_of_stretch(cell) for cell in row] for row in cells]
    texts = [" ".join(["cells", *row]) for row in words]
    return "\n".join([*line_texts("row", rows), *line_texts("column", columns), *texts])


def _lines_with(word, text):
    """Those lines of the text that begin with this word."""
    return [line for line in text.split("\n") if line.startswith(f"{word} ")]


def _read_side(word, text):
    return read_lines(word, _lines_with(word, text))


def _read_cells(text):
    """The rows of cells in the text, with None for what is no stretch."""
    rows = [line.split(" ")[1:] for line in _lines_with("cells", text)]
    return tuple([tuple([stretch_in_text(word) for word in row]) for row in rows])


def _tolds_of(rows, columns, spots):
    """The names of all told stretches, in the order of the text."""
    row_names = [("row", name) for name in rows.names]
    column_names = [("column", name) for name in columns.names]
    return (*row_names, *column_names, *[("cell", row, column) for row, column in spots])


def told_stretches(cross):
    """A fresh list of all told stretches, in the order of their names."""
    cells = [cell for row in cross.cells for cell in row]
    return [*stretches_of(cross.rows), *stretches_of(cross.columns), *cells]


def cross_told_anew(cross, stretches):
    """The cross with these stretches, in the order of their names, in the places of its own ones."""
    many = len(cross.rows)
    behind = many + len(cross.columns)
    rows = told_anew(cross.rows, stretches[:many])
    columns = told_anew(cross.columns, stretches[many:behind])
    return Cross(rows, columns, as_table(cross, stretches[behind:]))


def as_table(cross, values):
    """A table with these values, one for each cell, row by row."""
    wide = len(cross.columns.leaves)
    return tuple([tuple(values[at:at + wide]) for at in range(0, len(values), wide)])


def need_cross(cross):
    if not isinstance(cross, Cross):
        raise NotACross(cross)


def is_cell(cross, value):
    """Whether it is a cell of the cross."""
    if not are_numbers(value, 2):
        return False
    return value[0] < len(cross.rows.leaves) and value[1] < len(cross.columns.leaves)


def need_cell(cross, cell):
    if not is_cell(cross, cell):
        raise InvalidCell(cell)


def _is_told(cross, what):
    """Whether it is the name of a told stretch of the cross."""
    if not isinstance(what, tuple) or len(what) not in (2, 3) or not isinstance(what[0], str):
        return False
    if len(what) == 3:
        return what[0] == "cell" and is_cell(cross, what[1:])
    if what[0] == "row":
        return is_area(cross.rows, what[1])
    return what[0] == "column" and is_area(cross.columns, what[1])


def index_of_told(cross, what):
    """The place of this name among those of the told stretches."""
    if not _is_told(cross, what):
        raise InvalidTold(what)
    return cross.tolds.index(what)


def turned(cross):
    """The cross with rows and columns exchanged."""
    need_cross(cross)
    cells = [tuple([row[at] for row in cross.cells]) for at in range(len(cross.columns.leaves))]
    return Cross(cross.columns, cross.rows, tuple(cells))


def _need_sums(sums):
    if not isinstance(sums, tuple) or not 1 <= len(sums) <= MOST_LEAVES:
        raise InvalidCount(sums)
    if not all([is_number(number) and number <= _MOST_SUM for number in sums]):
        raise InvalidCount(sums)


def _areas_with_sums(sums):
    """A whole, and in it an area for each sum."""
    whole = sum(sums)
    lines = [(_SUM_NAMES[at], "all", (number, number)) for at, number in enumerate(sums)]
    return Areas((("all", "", (whole, whole)), *lines))


def table_cross(row_sums, column_sums):
    """The cross of a table with told sums of its rows and of its columns."""
    _need_sums(row_sums)
    _need_sums(column_sums)
    row = tuple([(0, MOST_NUMBER) for _ in column_sums])
    return Cross(_areas_with_sums(row_sums), _areas_with_sums(column_sums), tuple([row for _ in row_sums]))
