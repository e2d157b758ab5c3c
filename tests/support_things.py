"""Things of all four sorts, with all their data found by trying, for tests of things, wishes, desks and shelves."""

import itertools

from support import (APART, CLASHING, CROWDED, FEW, GRID, HALL, LAND, ONES, POOR, THIRTEEN, TWELVE, all_boxes,
                     all_counts, all_fillings, all_fits, crosses_around, many_areas, many_crosses, many_faces,
                     many_reports)
from toldcounts.areas import Areas
from toldcounts.crosses import Cross
from toldcounts.reports import Report

FULL = HALL.changed(("row", "all"), (4, 40))
FULLER = HALL.changed(("row", "all"), (4, 41))
# None of these is a thing, though all of them are of the classes of things.
NO_THINGS = (FULLER, THIRTEEN)
TINY = Areas((("all", "", (3, 3)),))
LONELY = Report(2, (1, 2), (("total", (2, 2)),))
EMPTY = Report(2, (1, 2), (("total", (5, 5)),))
THINGS = (LAND, TINY, POOR, GRID, HALL, FULL, CROWDED, FEW, CLASHING, LONELY, EMPTY, ONES, APART, TWELVE)


def data_of(thing):
    """All data, ascending, by trying."""
    if isinstance(thing, Areas):
        return all_counts(thing)
    if isinstance(thing, Cross):
        return all_fillings(thing)
    if isinstance(thing, Report):
        return all_fits(thing)
    return all_boxes(thing)


def places_of(thing):
    if isinstance(thing, Areas):
        return list(thing.names)
    if isinstance(thing, Cross):
        return [what[1:] for what in thing.tolds if what[0] == "cell"]
    if isinstance(thing, Report):
        return list(range(thing.scale[0], thing.scale[1] + 1))
    return list(itertools.product(*[range(edge) for edge in thing.edges]))


def number_at(thing, data, place):
    """What the place has in these data."""
    if isinstance(thing, Areas):
        return data[thing.names.index(place)]
    if isinstance(thing, Cross):
        return data[place[0]][place[1]]
    if isinstance(thing, Report):
        return data.count(place)
    return data[place[0]][place[1]][place[2]]


def sort_of(thing):
    return thing.__class__.__name__


def many_things(seed, many):
    """So many things of each sort; most have data, those with the fewest ones first."""
    found = many_areas(seed, many) + many_reports(seed, many) + many_faces(seed, many)
    found += crosses_around(seed, many // 2, ((1, 1), (1, 2), (2, 1), (2, 2))) + many_crosses(seed, many // 2)
    return [thing for thing in found if not isinstance(thing, Cross) or thing.rows.lines[0][2][1] <= 40]


def pairs_of_things(seed, many):
    """Pairs (thing, all its data): those above, and so many of each sort."""
    # The cells of the grid can be anything: too many to be tried.
    things = [thing for thing in THINGS if thing != GRID] + many_things(seed, many)
    return [(thing, data_of(thing)) for thing in things]
