"""Consoles: a desk that is told and asked by lines of text."""

from toldcounts.crossnumbers import fillings_number
from toldcounts.desks import Desk
from toldcounts.errors import InvalidStretch, InvalidTold, NoData, NotADesk, NothingToUndo, TooMany
from toldcounts.firsts import first_filling
from toldcounts.stretches import stretch_in_text, text_of_stretch
from toldcounts.values import is_name, read_number

_NO_LINE = "no such line"


class Console:
    """A console for a desk."""

    def __init__(self, desk):
        if not isinstance(desk, Desk):
            raise NotADesk(desk)
        self._desk = desk

    def say(self, line):
        """What is said to this line, behind what it tells the desk."""
        if line == "undo":
            return _undone(self._desk)
        if line == "number":
            return _number(self._desk)
        if line == "sure":
            return f"{len(self._desk.sure())}"
        if line == "first":
            return _first(self._desk)
        if line == "told":
            return f"{len(self._desk)}"
        word, *words = line.split(" ")
        if word == "ends":
            return _ends(self._desk, _read_what(words))
        if word == "tell":
            return _told(self._desk, _read_what(words[:-1]), stretch_in_text(line.split(" ")[-1]))
        return _NO_LINE


def _read_what(words):
    """The name of a told stretch that these words can tell, None if they tell none."""
    if len(words) == 2 and words[0] in ("row", "column") and is_name(words[1]):
        return (words[0], words[1])
    if len(words) != 3 or words[0] != "cell":
        return None
    row, column = read_number(words[1]), read_number(words[2])
    if row is None or column is None:
        return None
    return ("cell", row, column)


def _told(desk, what, stretch):
    if what is None or stretch is None:
        return _NO_LINE
    try:
        desk.tell(what, stretch)
    except InvalidTold:
        return "InvalidTold"
    except InvalidStretch:
        return "InvalidStretch"
    except NoData:
        return "NoData"
    return "told"


def _undone(desk):
    try:
        desk.undo()
    except NothingToUndo:
        return "NothingToUndo"
    return "undone"


def _ends(desk, what):
    if what is None:
        return _NO_LINE
    try:
        return text_of_stretch(desk.ends(what))
    except InvalidTold:
        return "InvalidTold"


def _number(desk):
    try:
        return f"{fillings_number(desk.now)}"
    except TooMany:
        return "TooMany"


def _first(desk):
    return "/".join([" ".join([f"{number}" for number in row]) for row in first_filling(desk.now)])
