"""Things: areas, crosses, reports and faces whose data can be counted ([29])."""

from toldcounts.areacounts import first_count
from toldcounts.areanumbers import counts_number
from toldcounts.arearanges import area_range
from toldcounts.areas import Areas, is_area
from toldcounts.boxes import boxes_number, first_box
from toldcounts.boxvalues import spot_values
from toldcounts.crosses import Cross, is_cell
from toldcounts.crossnumbers import fillings_number
from toldcounts.crossranges import cell_range
from toldcounts.errors import InvalidPlace, InvalidText, NoData, NotAThing
from toldcounts.faces import Faces, is_spot
from toldcounts.firsts import first_filling
from toldcounts.limits import MOST_COUNTED, MOST_FACE
from toldcounts.reportdata import first_scores, scores_number
from toldcounts.reports import Report, is_score
from toldcounts.reportvalues import holders


def is_thing(value):
    """Whether it is one of the four sorts of things."""
    if isinstance(value, Cross):
        return value.rows.lines[0][2][1] <= MOST_COUNTED
    if isinstance(value, Faces):
        return sum([sum(row) for row in value.front]) <= MOST_FACE
    return isinstance(value, Areas) or isinstance(value, Report)


def need_thing(thing):
    if not is_thing(thing):
        raise NotAThing(thing)


def has_data(thing):
    """Whether the thing has data."""
    return first_data(thing) is not None


def data_number(thing):
    """How many data the thing has."""
    need_thing(thing)
    if isinstance(thing, Areas):
        return counts_number(thing)
    if isinstance(thing, Cross):
        return fillings_number(thing)
    if isinstance(thing, Report):
        return scores_number(thing)
    return boxes_number(thing)


def first_data(thing):
    """The first data of the thing, None if there are none."""
    need_thing(thing)
    if isinstance(thing, Areas):
        return first_count(thing)
    if isinstance(thing, Cross):
        return first_filling(thing)
    if isinstance(thing, Report):
        return first_scores(thing)
    return first_box(thing)


def is_place(thing, value):
    """Whether it is a place of the thing."""
    if isinstance(thing, Areas):
        return is_area(thing, value)
    if isinstance(thing, Cross):
        return is_cell(thing, value)
    if isinstance(thing, Report):
        return is_score(value, thing.scale)
    return is_spot(thing, value)


def place_range(thing, place):
    """The pair of the least and the greatest number that the place has in data."""
    need_thing(thing)
    if not is_place(thing, place):
        raise InvalidPlace(place)
    if isinstance(thing, Areas):
        return area_range(thing, place)
    if isinstance(thing, Cross):
        return cell_range(thing, place)
    if isinstance(thing, Report):
        return _ends(holders(thing, place))
    return _ends(spot_values(thing, place))


def _ends(numbers):
    """The first and the last one of the numbers."""
    if len(numbers) == 0:
        raise NoData()
    return (numbers[0], numbers[-1])


def thing_text(thing):
    """The text of the thing."""
    need_thing(thing)
    return thing.text


def _told(text):
    """The areas, the cross, the report or the faces with this text."""
    if not isinstance(text, str):
        raise InvalidText(text)
    if text.startswith("area "):
        return Areas.told(text)
    if text.startswith("row "):
        return Cross.told(text)
    if text.startswith("report "):
        return Report.told(text)
    return Faces.told(text)


def read_thing(text):
    """The thing with this text."""
    thing = _told(text)
    if not is_thing(thing):
        raise InvalidText(text)
    return thing
