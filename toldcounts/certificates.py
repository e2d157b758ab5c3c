"""Claims with papers that show them ([30])."""

from toldcounts.areacounts import area_bar, first_count
from toldcounts.arearanges import area_range
from toldcounts.boxes import first_box
from toldcounts.crossranges import cell_range
from toldcounts.fillings import a_filling, cross_bar
from toldcounts.pages import is_safe, known
from toldcounts.pollpeople import first_counts
from toldcounts.profiles import first_profile
from toldcounts.reportdata import first_scores
from toldcounts.stretches import beside
from toldcounts.ways import way


def certify_count(areas):
    """That the areas have a count, or that they have none."""
    count = first_count(areas)
    if count is None:
        return (("no count", areas.text), area_bar(areas))
    return (("count", areas.text), count)


def certify_area(areas, name):
    """Which range the area has."""
    low, high = area_range(areas, name)
    counts = [first_count(areas.changed(name, (end, end))) for end in (low, high)]
    bars = [() if part is None else area_bar(areas.changed(name, part))
            for part in beside(areas.stretch(name), (low, high))]
    return (("area", areas.text, name, low, high), (*counts, *bars))


def certify_filling(cross):
    """That the cross has a filling, or that it has none."""
    filling = a_filling(cross)
    if filling is None:
        return (("no filling", cross.text), cross_bar(cross))
    return (("filling", cross.text), filling)


def _end_fillings(cross, cell, ends):
    """A filling in which the cell has the first one of these numbers, and one in which it has the other one."""
    return tuple([a_filling(cross.changed(("cell", *cell), (end, end))) for end in ends])


def certify_cell(cross, cell):
    """Which range the cell has."""
    low, high = cell_range(cross, cell)
    what = ("cell", *cell)
    bars = [() if part is None else cross_bar(cross.changed(what, part))
            for part in beside(cross.stretch(what), (low, high))]
    return (("cell", cross.text, cell, low, high), (*_end_fillings(cross, cell, (low, high)), *bars))


def certify_way(cross, filling, other):
    """That there is a way from the first filling to the second one."""
    found = way(cross, filling, other)
    return (("way", cross.text, filling, other), found)


def certify_safe(page, cell, width):
    """That the hidden cell is safe by the width, None if it is not."""
    if not is_safe(page, cell, width):
        return None
    cross = known(page)
    return (("safe", page.text, cell, width), _end_fillings(cross, cell, cell_range(cross, cell)))


def certify_scores(report):
    """That some scores fit the report, None if none fit."""
    scores = first_scores(report)
    if scores is None:
        return None
    return (("scores", report.text), scores)


def certify_profile(votes):
    """That the votes have a profile, None if they have none."""
    profile = first_profile(votes)
    if profile is None:
        return None
    return (("profile", votes.text), profile)


def certify_box(faces):
    """That there is a box for the faces, None if there is none."""
    box = first_box(faces)
    if box is None:
        return None
    return (("box", faces.text), box)


def certify_people(poll, people):
    """That the poll fits so many people, None if it does not."""
    counts = first_counts(poll, people)
    if counts is None:
        return None
    return (("people", poll.text, people), counts)
