"""Faces of boxes: the sums of their numbers seen from three sides ([22], [23])."""

from toldcounts.errors import InvalidBox, InvalidFace, InvalidSpot, InvalidText, NotFaces
from toldcounts.limits import MOST_EDGE, MOST_FACE
from toldcounts.values import are_numbers, read_number


class Faces:
    """A front, a side and a top; they never change."""

    def __init__(self, front, side, top):
        need_front_and_side(front, side)
        if not _is_face(top) or len(top) != len(front[0]) or len(top[0]) != len(side[0]):
            raise InvalidFace(top)
        self._front = front
        self._side = side
        self._top = top
        self._edges = (len(front), len(top), len(top[0]))
        self._spots = spots_in(self._edges)
        lines = [*_face_lines("front", front), *_face_lines("side", side), *_face_lines("top", top)]
        self._text = "\n".join(lines)

    @classmethod
    def told(cls, text):
        """The faces with this text."""
        if not isinstance(text, str):
            raise InvalidText(text)
        lines = text.split("\n")
        try:
            faces = cls(_read_face("front", lines), _read_face("side", lines), _read_face("top", lines))
        except InvalidFace:
            raise InvalidText(text) from None
        if faces.text != text:
            raise InvalidText(text)
        return faces

    @property
    def front(self):
        return self._front

    @property
    def side(self):
        return self._side

    @property
    def top(self):
        return self._top

    @property
    def text(self):
        return self._text

    @property
    def edges(self):
        return self._edges

    def __eq__(self, other):
        return isinstance(other, Faces) and self._text == other._text

    def __str__(self):
        return str(self._text)

    def __len__(self):
        return len(self._spots)


def _is_face(value):
    """Whether it is a table of one to three rows of one to three integers from 0 to 12."""
    if not isinstance(value, tuple) or not 1 <= len(value) <= MOST_EDGE:
        return False
    if not isinstance(value[0], tuple) or not 1 <= len(value[0]) <= MOST_EDGE:
        return False
    if not all([are_numbers(row, len(value[0])) for row in value]):
        return False
    return max([max(row) for row in value]) <= MOST_FACE


def need_front_and_side(front, side):
    if not _is_face(front):
        raise InvalidFace(front)
    if not _is_face(side) or len(side) != len(front):
        raise InvalidFace(side)


def need_faces(faces):
    if not isinstance(faces, Faces):
        raise NotFaces(faces)


def spots_in(edges):
    """All spots of a box with these edges, ascending."""
    spots = [(i, j, k) for i in range(edges[0]) for j in range(edges[1]) for k in range(edges[2])]
    return tuple(spots)


def is_spot(faces, value):
    """Whether it is a spot of the faces."""
    return are_numbers(value, len(faces.edges)) and all([at < edge for at, edge in zip(value, faces.edges)])


def need_spot(faces, spot):
    if not is_spot(faces, spot):
        raise InvalidSpot(spot)


def _face_lines(word, face):
    return [" ".join([word, *[f"{number}" for number in row]]) for row in face]


def _read_face(word, lines):
    """The numbers in all lines with this word, with None for what is none."""
    words = [line.split(" ") for line in lines]
    return tuple([tuple([read_number(number) for number in row[1:]]) for row in words if row[0] == word])


def _across(table):
    """The table with rows and columns exchanged."""
    return tuple(zip(*table))


def _sums(table):
    return [sum(row) for row in table]


def agree(faces):
    """Whether each two faces have the sums in common that both tell."""
    need_faces(faces)
    front, side, top = faces.front, faces.side, faces.top
    if _sums(front) != _sums(side) or _sums(_across(front)) != _sums(top):
        return False
    return _sums(_across(side)) == _sums(_across(top))


def sums_of_box(box):
    """The front, the side and the top of a box."""
    front = tuple([tuple(_sums(table)) for table in box])
    side = tuple([tuple(_sums(_across(table))) for table in box])
    top = [tuple(_sums(_across(rows))) for rows in zip(*box)]
    return (front, side, tuple(top))


def is_box_with(edges, value):
    """Whether it is a tuple of tables of rows of integers from 0 on, as many as the edges tell."""
    if not isinstance(value, tuple) or len(value) != edges[0]:
        return False
    for table in value:
        if not isinstance(table, tuple) or len(table) != edges[1]:
            return False
        if not all([are_numbers(row, edges[2]) for row in table]):
            return False
    return True


def _edges_of(value):
    """The edges that it has if it is a box; if it is none, these need not be right."""
    edges = []
    inner = value
    while isinstance(inner, tuple) and 1 <= len(inner) <= MOST_EDGE and len(edges) < MOST_EDGE:
        edges.append(len(inner))
        inner = inner[0]
    return edges


def box_faces(box):
    """The faces of a box."""
    edges = _edges_of(box)
    if len(edges) < MOST_EDGE or not is_box_with(edges, box):
        raise InvalidBox(box)
    front, side, top = sums_of_box(box)
    try:
        return Faces(front, side, top)
    except InvalidFace:
        raise InvalidBox(box) from None


def tipped(faces):
    """The faces of the boxes with the first two edges exchanged."""
    need_faces(faces)
    return Faces(_across(faces.front), faces.top, faces.side)
