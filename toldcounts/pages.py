"""Pages: crosses with one filling and hidden cells, and what others work out of them ([17])."""

from itertools import combinations

from toldcounts.areapages import need_width
from toldcounts.crosses import Cross, cross_told_anew, is_cell, need_cell, need_cross, told_stretches
from toldcounts.errors import InvalidCells, InvalidFilling, InvalidText, NotAPage, TooMany
from toldcounts.fillings import cross_network, need_filling, numbers_in
from toldcounts.limits import MOST_COVERED
from toldcounts.values import holds_one, read_number, wrong_at

_HIDDEN_SIGN = "?"


class Page:
    """A cross with one filling and hidden cells; it never changes."""

    def __init__(self, cross, filling, hidden):
        need_cross(cross)
        need_filling(cross, filling)
        _need_cells(cross, hidden)
        self._cross = cross
        self._filling = filling
        self._hidden = hidden
        self._text = _page_text(cross, filling, hidden)

    @classmethod
    def told(cls, text):
        """The page with this text."""
        if not isinstance(text, str):
            raise InvalidText(text)
        lines = text.split("\n")
        rows = [line.split(" ")[1:] for line in lines if _has_numbers(line)]
        try:
            cross = Cross.told("\n".join([line for line in lines if not _has_numbers(line)]))
            page = cls(cross, _read_filling(rows), _read_hidden(rows))
        except (InvalidText, InvalidFilling, InvalidCells):
            raise InvalidText(text) from None
        if page.text != text:
            raise InvalidText(text)
        return page

    @property
    def cross(self):
        return self._cross

    @property
    def filling(self):
        return self._filling

    @property
    def hidden(self):
        return self._hidden

    @property
    def text(self):
        return self._text

    def __eq__(self, other):
        return isinstance(other, Page) and self._text == other._text

    def __str__(self):
        return str(self._text)

    def __len__(self):
        return len(self._hidden)

    def __bool__(self):
        return True


def _need_cells(cross, cells):
    """Raises InvalidCells for what is no ascending tuple of cells of the cross."""
    if not isinstance(cells, tuple):
        raise InvalidCells(None)
    at = wrong_at(cells, lambda cell: is_cell(cross, cell))
    if at is not None:
        raise InvalidCells(at)


def _page_text(cross, filling, hidden):
    lines = [cross.text]
    for row, numbers in enumerate(filling):
        words = []
        for column, number in enumerate(numbers):
            words.append(f"{number}{_HIDDEN_SIGN}" if (row, column) in hidden else f"{number}")
        lines.append(" ".join(["numbers", *words]))
    return "\n".join(lines)


def _has_numbers(line):
    return line.startswith("numbers ")


def _read_filling(rows):
    """The numbers in these rows of words, with None for what is none."""
    return tuple([tuple([read_number(word.removesuffix(_HIDDEN_SIGN)) for word in row]) for row in rows])


def _read_hidden(rows):
    """The cells of these rows of words that are marked as hidden."""
    cells = [(row, column, word) for row, words in enumerate(rows) for column, word in enumerate(words)]
    return tuple([(row, column) for row, column, word in cells if word.endswith(_HIDDEN_SIGN)])


def _need_page(page):
    if not isinstance(page, Page):
        raise NotAPage(page)


def _known_stretches(page, hidden):
    """What others know of each told stretch, if these cells are hidden."""
    found = []
    numbers = numbers_in(page.cross, page.filling)
    for what, stretch, number in zip(page.cross.tolds, told_stretches(page.cross), numbers):
        found.append(stretch if what[0] == "cell" and what[1:] in hidden else (number, number))
    return found


def known(page):
    """The cross of what others know."""
    _need_page(page)
    return cross_told_anew(page.cross, _known_stretches(page, page.hidden))


def _guesses(page, hidden, cells):
    """The guesses for these cells, if those are hidden."""
    network = cross_network(page.cross)
    network.take(numbers_in(page.cross, page.filling))
    for at, (low, high) in enumerate(_known_stretches(page, hidden)):
        network.bound(at, low, high)
    return [network.range_of(page.cross.tolds.index(("cell", *cell))) for cell in cells]


def guess(page, cell):
    """The range of the cell in all that others know."""
    _need_page(page)
    need_cell(page.cross, cell)
    return _guesses(page, page.hidden, (cell,))[0]


def guesses(page):
    """The pairs (cell, guess) of all hidden cells."""
    _need_page(page)
    return tuple(zip(page.hidden, _guesses(page, page.hidden, page.hidden)))


def worked_out(page):
    """The hidden cells that are worked out."""
    return tuple([cell for cell, (low, high) in guesses(page) if low == high])


def _are_safe(page, hidden, some, width):
    """Whether all these cells are safe by the width, if those are hidden."""
    if any([cell not in hidden for cell in some]):
        return False
    return all([high - low >= width for low, high in _guesses(page, hidden, some)])


def is_safe(page, cell, width):
    """Whether the cell is hidden, and safe by the width."""
    _need_page(page)
    need_cell(page.cross, cell)
    need_width(width)
    return _are_safe(page, page.hidden, (cell,), width)


def least_covers(page, some, width):
    """All least covers of some cells: those with fewer cells first, those with equally many ascending."""
    _need_page(page)
    _need_cells(page.cross, some)
    need_width(width)
    if len(page.cross) > MOST_COVERED:
        raise TooMany(len(page.cross))
    shown = [what[1:] for what in page.cross.tolds if what[0] == "cell" and what[1:] not in page.hidden]
    covers = []
    # Where more is hidden no guess becomes narrower: if all of it is not enough, there is none.
    if not _are_safe(page, (*page.hidden, *shown), some, width):
        return ()
    for many in range(len(shown) + 1):
        wider = [more for more in combinations(shown, many) if not holds_one(more, covers)]
        covers.extend([more for more in wider if _are_safe(page, (*page.hidden, *more), some, width)])
    return tuple(covers)
