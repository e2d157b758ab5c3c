"""Whether a paper shows what is claimed ([30]).

Nothing is searched for here: each paper is looked at by what the document says of counts, fillings, bars, ways and the
like, so what is accepted is true, whoever wrote it.
"""

from toldcounts.areacounts import is_area_bar, is_count
from toldcounts.areas import Areas, index_of_area, is_area
from toldcounts.boxes import is_box_for
from toldcounts.crosses import Cross, is_cell
from toldcounts.errors import InvalidText
from toldcounts.faces import Faces
from toldcounts.fillings import is_cross_bar, is_filling
from toldcounts.pages import Page, known
from toldcounts.polls import Poll, shares_of
from toldcounts.profiles import is_profile
from toldcounts.reportdata import does_fit
from toldcounts.reports import Report
from toldcounts.stretches import beside
from toldcounts.values import are_numbers, is_integer
from toldcounts.votes import Votes
from toldcounts.ways import is_way

# How long each claim is.
_LENGTHS = {"count": 2, "no count": 2, "area": 5, "filling": 2, "no filling": 2, "cell": 5, "way": 4, "safe": 4,
            "scores": 2, "box": 2, "people": 3, "profile": 2}


def accepts(claim, paper):
    """Whether the first one is a claim, and the second one a paper for it."""
    if not isinstance(claim, tuple) or len(claim) == 0 or not isinstance(claim[0], str):
        return False
    if _LENGTHS.get(claim[0]) != len(claim):
        return False
    try:
        return _shows(claim[0], claim[1], claim[2:], paper)
    except InvalidText:
        return False


def _shows(word, text, told, paper):
    """Whether the paper shows what is told of that of which this is the text; InvalidText if it is no text of it."""
    if word in ("count", "no count", "area"):
        return _shows_areas(word, Areas.told(text), told, paper)
    if word in ("filling", "no filling", "cell", "way"):
        return _shows_cross(word, Cross.told(text), told, paper)
    if word == "safe":
        return _shows_safe(Page.told(text), told[0], told[1], paper)
    if word == "scores":
        return does_fit(Report.told(text), paper)
    if word == "box":
        return is_box_for(Faces.told(text), paper)
    if word == "people":
        return _shows_people(Poll.told(text), told[0], paper)
    return is_profile(Votes.told(text), paper)


def _shows_areas(word, areas, told, paper):
    if word == "count":
        return is_count(areas, paper)
    if word == "no count":
        return is_area_bar(areas, paper)
    return _shows_area(areas, told[0], (told[1], told[2]), paper)


def _shows_cross(word, cross, told, paper):
    if word == "filling":
        return is_filling(cross, paper)
    if word == "no filling":
        return is_cross_bar(cross, paper)
    if word == "cell":
        return _shows_cell(cross, told[0], (told[1], told[2]), paper)
    one, other = told
    return is_filling(cross, one) and is_filling(cross, other) and is_way(cross, one, other, paper)


def _can_show_ends(ends, paper):
    """Whether the ends are integers, and the paper has four parts."""
    return is_integer(ends[0]) and is_integer(ends[1]) and isinstance(paper, tuple) and len(paper) == 4


def _shows_nothing(value):
    """Whether it is the empty tuple, which stands where there is nothing to be shown."""
    return isinstance(value, tuple) and len(value) == 0


def _shows_area(areas, name, ends, paper):
    """Whether the paper shows that the ends are those of the range of the area."""
    if not is_area(areas, name) or not _can_show_ends(ends, paper):
        return False
    one, other, *bars = paper
    if not is_count(areas, one) or not is_count(areas, other):
        return False
    at = index_of_area(areas, name)
    if (one[at], other[at]) != ends:
        return False
    parts = beside(areas.stretch(name), ends)
    return all([_shows_nothing(bar) if part is None else is_area_bar(areas.changed(name, part), bar)
                for part, bar in zip(parts, bars)])


def _shows_cell(cross, cell, ends, paper):
    """Whether the paper shows that the ends are those of the range of the cell."""
    if not is_cell(cross, cell) or not _can_show_ends(ends, paper):
        return False
    one, other, *bars = paper
    if not is_filling(cross, one) or not is_filling(cross, other):
        return False
    row, column = cell
    if (one[row][column], other[row][column]) != ends:
        return False
    what = ("cell", row, column)
    parts = beside(cross.stretch(what), ends)
    return all([_shows_nothing(bar) if part is None else is_cross_bar(cross.changed(what, part), bar)
                for part, bar in zip(parts, bars)])


def _shows_safe(page, cell, width, paper):
    """Whether the paper shows that the hidden cell is safe by the width."""
    if not is_cell(page.cross, cell) or cell not in page.hidden or not is_integer(width) or width < 1:
        return False
    if not isinstance(paper, tuple) or len(paper) != 2:
        return False
    cross = known(page)
    if not is_filling(cross, paper[0]) or not is_filling(cross, paper[1]):
        return False
    row, column = cell
    return abs(paper[0][row][column] - paper[1][row][column]) >= width


def _shows_people(poll, people, paper):
    """Whether the paper shows that the poll fits so many people."""
    if not is_integer(people) or people < 1 or not are_numbers(paper, len(poll)):
        return False
    return sum(paper) == people and shares_of(paper, poll.places) == poll.shares
