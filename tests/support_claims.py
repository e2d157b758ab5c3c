"""Claims and papers, judged word by word from [30] by all data, and values that are like others but for one part."""

import functools

from support import all_boxes, all_counts, all_fillings, all_fits, ends
from support_polls import all_polled, has_votes
from test_areacounts import is_bar as is_bar_of_areas
from test_fillings import is_bar as is_bar_of_cross
from test_ways import done, steps_of
from toldcounts.areas import Areas
from toldcounts.crosses import Cross
from toldcounts.errors import InvalidText
from toldcounts.faces import Faces
from toldcounts.pages import Page
from toldcounts.polls import Poll
from toldcounts.reports import Report
from toldcounts.votes import Votes

SORTS = {"count": (Areas, 0), "no count": (Areas, 0), "area": (Areas, 3), "filling": (Cross, 0), "no filling": (Cross, 0),
         "cell": (Cross, 3), "way": (Cross, 2), "safe": (Page, 2), "scores": (Report, 0), "box": (Faces, 0),
         "people": (Poll, 1), "profile": (Votes, 0)}


def altered(value):
    """Values that are like this one, but for one part that is another one, is left out, or stands elsewhere."""
    found = [None]
    if isinstance(value, bool):
        return found + [not value, int(value)]
    if isinstance(value, int):
        return found + [value + 1, value - 1, -value, str(value), (value,), 10 ** 50] + [bool(value)] * (value in (0, 1))
    if isinstance(value, str):
        return found + [value[1:], value + " ", value.upper(), value.replace("0", "1"), value.replace("1", "01", 1),
                        (value,), value.encode()]
    found += [list(value), value + value[-1:], value[:-1], value[1:], value[::-1], (value,), value + (None,), "", 0]
    for at, part in enumerate(value):
        found += [value[:at] + (other,) + value[at + 1:] for other in altered(part)]
        found.append(value[:at] + value[at + 1:])
        found.append(value[:at] + value[at + 1:at + 2] + value[at:at + 1] + value[at + 2:])
    return [other for other in found if repr(other) != repr(value)]


@functools.lru_cache(maxsize=None)
def read(sort, text):
    try:
        return sort.told(text)
    except InvalidText:
        return None


def is_one_of(value, data):
    """Whether it is one of the data, of the same kinds in all its parts."""
    return repr(value) in {repr(each) for each in data}


@functools.lru_cache(maxsize=None)
def data_of(sort, text):
    made = read(sort, text)
    return {Areas: all_counts, Cross: all_fillings, Report: all_fits, Faces: all_boxes}[sort](made)


def are_names(areas, value):
    return value.__class__ is tuple and list(value) == sorted(set(map(str, value))) and set(value) <= set(areas.names)


def bars_areas(areas, paper):
    if paper.__class__ is not tuple or len(paper) != 3 or paper[0] not in ("more", "less"):
        return False
    return is_one_of(paper[1], areas.names) and are_names(areas, paper[2]) and is_bar_of_areas(areas, *paper)


def bars_cross(cross, paper):
    if paper.__class__ is not tuple or len(paper) != 3 or paper[2].__class__ is not bool:
        return False
    return are_names(cross.rows, paper[0]) and are_names(cross.columns, paper[1]) and is_bar_of_cross(cross, *paper)


def shows_range(data, numbers, stretch, changed, bars, low, high, paper):
    """What [30] says of ranges: the data, what the place has in each of them, and its stretch."""
    if not numbers or repr((low, high)) != repr(ends(numbers)) or paper.__class__ is not tuple or len(paper) != 4:
        return False
    firsts = [each for each, number in zip(data, numbers) if number == low]
    others = [each for each, number in zip(data, numbers) if number == high]
    if not is_one_of(paper[0], firsts) or not is_one_of(paper[1], others):
        return False
    below = repr(paper[2]) == "()" if low == stretch[0] else bars(changed((stretch[0], low - 1)), paper[2])
    above = repr(paper[3]) == "()" if high == stretch[1] else bars(changed((high + 1, stretch[1])), paper[3])
    return below and above


def leads(cross, one, other, paper):
    """Whether it is a way, step by step."""
    data = data_of(Cross, cross.text)
    if not is_one_of(one, data) or not is_one_of(other, data) or paper.__class__ is not tuple:
        return False
    now, more, less, steps = one, set(), set(), steps_of(cross)
    for pair in paper:
        if pair.__class__ is not tuple or len(pair) != 2 or pair[1].__class__ is not int or not 1 <= pair[1] < 99:
            return False
        if not is_one_of(pair[0], steps):
            return False
        more, less = more | set(pair[0][0]), less | set(pair[0][1])
        for _ in range(pair[1]):
            now = done(now, pair[0], 1)
            if now not in data:
                return False
    return now == other and not more & less


def protects(page, cell, width, paper):
    """Whether it is a pair of fillings of what others know that differ by so much in the hidden cell."""
    if not is_one_of(cell, page.hidden) or width.__class__ is not int or width < 1:
        return False
    if paper.__class__ is not tuple or len(paper) != 2:
        return False
    knowing = [each for each in data_of(Cross, page.cross.text) if looks_alike(page, each)]
    if not is_one_of(paper[0], knowing) or not is_one_of(paper[1], knowing):
        return False
    return abs(paper[0][cell[0]][cell[1]] - paper[1][cell[0]][cell[1]]) >= width


def looks_alike(page, filling):
    """Whether a filling has the numbers that others know: those of areas, and of cells that are not hidden."""
    for areas, tables in ((page.cross.rows, (filling, page.filling)),
                          (page.cross.columns, (tuple(zip(*filling)), tuple(zip(*page.filling))))):
        for name in areas.names:
            sums = [sum(sum(row) for leaf, row in zip(areas.leaves, table) if lies_within(areas, leaf, name))
                    for table in tables]
            if sums[0] != sums[1]:
                return False
    return all(filling[row][column] == number or (row, column) in page.hidden
               for row, numbers in enumerate(page.filling) for column, number in enumerate(numbers))


def lies_within(areas, leaf, name):
    parents = {line[0]: line[1] for line in areas.lines}
    while leaf and leaf != name:
        leaf = parents[leaf]
    return leaf == name


def is_profile(votes, paper):
    if paper.__class__ is not tuple or [number.__class__ for number in paper] != [int] * 6:
        return False
    return min(paper) >= 0 and sum(paper) == votes.people and has_votes(votes, paper)


def is_right(claim, paper):
    """Whether it is a claim, and a paper for it."""
    if claim.__class__ is not tuple or not claim or claim[0].__class__ is not str or claim[0] not in SORTS:
        return False
    word, (sort, more) = claim[0], SORTS[claim[0]]
    if len(claim) != more + 2 or claim[1].__class__ is not str or read(sort, claim[1]) is None:
        return False
    made, told = read(sort, claim[1]), claim[2:]
    if word == "no count":
        return bars_areas(made, paper)
    if word == "no filling":
        return bars_cross(made, paper)
    if word == "way":
        return leads(made, told[0], told[1], paper)
    if word == "safe":
        return protects(made, told[0], told[1], paper)
    if word == "people":
        return told[0].__class__ is int and 1 <= told[0] < 99 and is_one_of(paper, all_polled(made, told[0]))
    if word == "profile":
        return is_profile(made, paper)
    data = data_of(sort, claim[1])
    if word == "area":
        if not is_one_of(told[0], made.names):
            return False
        numbers = [each[made.names.index(told[0])] for each in data]
        return shows_range(data, numbers, made.stretch(told[0]), lambda part: made.changed(told[0], part), bars_areas,
                           told[1], told[2], paper)
    if word == "cell":
        what = ("cell", *told[0]) if told[0].__class__ is tuple else None
        if not is_one_of(what, made.tolds):
            return False
        numbers = [each[what[1]][what[2]] for each in data]
        return shows_range(data, numbers, made.stretch(what), lambda part: made.changed(what, part), bars_cross,
                           told[1], told[2], paper)
    return is_one_of(paper, data)
