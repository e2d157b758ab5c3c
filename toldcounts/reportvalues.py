"""What scores that fit a report can have, and how its facts go together ([18] to [20])."""

from itertools import combinations

from toldcounts.errors import InvalidNumber, InvalidPeople, InvalidScale
from toldcounts.reportdata import fitting, is_as_told, middle_of, scores_of, squares_of
from toldcounts.reports import is_score, need_report
from toldcounts.values import ascending, holds_one

# So many bits hold how many people have one score.
_HOLDER_BITS = 4


def holders(report, score):
    """How many people can have this score."""
    need_report(report)
    if not is_score(score, report.scale):
        raise InvalidNumber(score)
    return ascending([scores.count(score) for scores in fitting(report)])


def totals(report):
    """All totals of scores that fit."""
    return ascending([sum(scores) for scores in fitting(report)])


def squares(report):
    """All squares of scores that fit."""
    return ascending([squares_of(scores) for scores in fitting(report)])


def middles(report):
    """All middles of scores that fit."""
    return ascending([middle_of(scores) for scores in fitting(report)])


def lowest(report):
    """All first scores of scores that fit."""
    return ascending([scores[0] for scores in fitting(report)])


def highest(report):
    """All last scores of scores that fit."""
    return ascending([scores[-1] for scores in fitting(report)])


def _ways_to_be(report):
    """For all scores on the scale, which facts they are as: a bit for each fact; each way once."""
    found = {}
    for scores in scores_of(report.people, report.scale):
        bits = sum([1 << at for at, fact in enumerate(report.facts) if is_as_told(scores, fact)])
        found[bits] = True
    return list(found)


def needless_facts(report):
    """The indexes of all facts that the others make needless, each by itself."""
    need_report(report)
    ways = _ways_to_be(report)
    every = (1 << len(report.facts)) - 1
    return tuple([at for at in range(len(report.facts)) if every - (1 << at) not in ways])


def least_clashes(report):
    """All least clashes: those with fewer facts first, those with equally many ascending."""
    need_report(report)
    ways = _ways_to_be(report)
    indexes = list(range(len(report.facts)))
    clashes = []
    for many in range(1, len(indexes) + 1):
        wider = [some for some in combinations(indexes, many) if not holds_one(some, clashes)]
        clashes.extend([some for some in wider if _do_clash(some, ways)])
    return tuple(clashes)


def _do_clash(indexes, ways):
    """Whether no scores are as all these facts."""
    bits = sum([1 << at for at in indexes])
    return all([way & bits != bits for way in ways])


def _holding(scores):
    """How many people have each score, as one integer; those of two lots of people add up to that of all of them."""
    return sum([1 << score * _HOLDER_BITS for score in scores])


def rest_totals(report, part):
    """All totals that the rest of the people can have, if those of the part are some of them."""
    need_report(report)
    need_report(part)
    if part.people >= report.people:
        raise InvalidPeople(part.people)
    if part.scale != report.scale:
        raise InvalidScale(part.scale)
    wholes = {_holding(scores): True for scores in fitting(report)}
    parts = [_holding(scores) for scores in fitting(part)]
    found = {}
    for rest in scores_of(report.people - part.people, report.scale):
        total, holding = sum(rest), _holding(rest)
        if total not in found and any([holding + other in wholes for other in parts]):
            found[total] = True
    return tuple(sorted(list(found)))
