"""Areas that lie within areas ([7])."""

from toldcounts.errors import InvalidLines, InvalidText, NotAreas, UnknownName
from toldcounts.limits import MOST_LINES
from toldcounts.stretches import is_stretch, need_stretch, stretch_in_text, text_of_stretch
from toldcounts.values import is_name


class Areas:
    """Areas, each with its told stretch; they never change."""

    def __init__(self, lines):
        _need_lines(lines)
        parents = [line[1] for line in lines]
        self._lines = lines
        self._names = tuple([line[0] for line in lines])
        self._leaves = tuple([name for name in self._names if name not in parents])
        self._text = "\n".join([_line_text("area", line) for line in lines])

    @classmethod
    def told(cls, text):
        """The areas with this text."""
        if not isinstance(text, str):
            raise InvalidText(text)
        try:
            areas = cls(read_lines("area", text.split("\n")))
        except InvalidLines:
            raise InvalidText(text) from None
        if areas.text != text:
            raise InvalidText(text)
        return areas

    @property
    def lines(self):
        return self._lines

    @property
    def names(self):
        return self._names

    @property
    def leaves(self):
        return self._leaves

    @property
    def text(self):
        return self._text

    def stretch(self, name):
        """The stretch of this area."""
        return self._lines[index_of_area(self, name)][2]

    def inner(self, name):
        """The names of the areas that lie in it directly."""
        need_area(self, name)
        return tuple([line[0] for line in self._lines if line[1] == name])

    def changed(self, name, stretch):
        """The areas with this stretch in the place of that area's own one."""
        at = index_of_area(self, name)
        need_stretch(stretch)
        stretches = stretches_of(self)
        stretches[at] = stretch
        return told_anew(self, stretches)

    def __eq__(self, other):
        return isinstance(other, Areas) and self._text == other._text

    def __str__(self):
        return str(self._text)

    def __len__(self):
        return len(self._lines)


def _is_line(line, names):
    """Whether it can be a line behind the lines with these names."""
    if not isinstance(line, tuple) or len(line) != 3:
        return False
    name, parent, stretch = line
    if not is_name(name) or name in names or not isinstance(parent, str):
        return False
    if not names:
        return parent == "" and is_stretch(stretch)
    return parent in names and is_stretch(stretch)


def _need_lines(lines):
    if not isinstance(lines, tuple) or len(lines) == 0:
        raise InvalidLines(None)
    names = []
    for at, line in enumerate(lines):
        if at == MOST_LINES or not _is_line(line, names):
            raise InvalidLines(at)
        names.append(line[0])


def _line_text(word, line):
    name, parent, stretch = line
    if parent == "":
        parent = "-"
    return f"{word} {name} {parent} {text_of_stretch(stretch)}"


def line_texts(word, areas):
    """The lines of the text of areas, with this word at the head of each."""
    return [_line_text(word, line) for line in areas.lines]


def _read_line(word, text):
    """The triple in the text of a line, whatever its parts are; None if there is none."""
    words = text.split(" ")
    if len(words) != 4 or words[0] != word:
        return None
    parent = words[2]
    if parent == "-":
        parent = ""
    return (words[1], parent, stretch_in_text(words[3]))


def read_lines(word, texts):
    """What stands in such lines of a text, as far as it can be read; not all of it need be lines of areas."""
    return tuple([_read_line(word, text) for text in texts])


def need_areas(areas):
    if not isinstance(areas, Areas):
        raise NotAreas(areas)


def is_area(areas, value):
    """Whether it is the name of one of the areas."""
    return isinstance(value, str) and value in areas.names


def need_area(areas, name):
    if not is_area(areas, name):
        raise UnknownName(name)


def index_of_area(areas, name):
    """The index of the line of this area."""
    need_area(areas, name)
    return areas.names.index(name)


def stretches_of(areas):
    """A fresh list of the stretches of all lines."""
    return [line[2] for line in areas.lines]


def told_anew(areas, stretches):
    """The areas with these stretches in the places of their own ones."""
    return Areas(tuple([(line[0], line[1], stretches[at]) for at, line in enumerate(areas.lines)]))
