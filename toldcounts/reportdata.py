"""Scores that fit a report ([18], [19])."""

from itertools import combinations

from toldcounts.errors import InvalidIndex, InvalidScores
from toldcounts.reports import is_score, need_report
from toldcounts.scores import mean_of, spread_of
from toldcounts.stretches import lies_in
from toldcounts.values import is_number


def scores_of(people, scale):
    """All scores of so many people on the scale, ascending."""
    low, high = scale
    # Scores none of which is less than the one before are numbers that grow, each one less by its place.
    numbers = list(range(low, high + people))
    return [tuple([number - at for at, number in enumerate(some)]) for some in combinations(numbers, int(people))]


def squares_of(scores):
    return sum([score * score for score in scores])


def middle_of(scores):
    return scores[(len(scores) - 1) // 2]


def is_as_told(scores, fact):
    """Whether the scores are as the fact tells."""
    word, told = fact[0], fact[-1]
    if word == "mean":
        return mean_of(len(scores), sum(scores), fact[1]) == told
    if word == "spread":
        return spread_of(len(scores), sum(scores), squares_of(scores), fact[1]) == told
    if word == "total":
        return lies_in(sum(scores), told)
    if word == "middle":
        return middle_of(scores) == told
    if word == "least":
        return scores[0] == told
    if word == "greatest":
        return scores[-1] == told
    return lies_in(scores.count(fact[1]), told)


def _are_scores(report, value):
    """Whether the value are scores of so many people on the scale."""
    if not isinstance(value, tuple) or len(value) != report.people:
        return False
    if not all([is_score(score, report.scale) for score in value]):
        return False
    return all([one <= other for one, other in zip(value, value[1:])])


def _do_fit(report, scores):
    return all([is_as_told(scores, fact) for fact in report.facts])


def does_fit(report, value):
    """Whether the value are scores that fit the report."""
    need_report(report)
    return _are_scores(report, value) and _do_fit(report, value)


def fitting(report):
    """All scores that fit the report, ascending."""
    need_report(report)
    return [scores for scores in scores_of(report.people, report.scale) if _do_fit(report, scores)]


def first_scores(report):
    """The first scores that fit, None if none fit."""
    found = fitting(report)
    if not found:
        return None
    return found[0]


def last_scores(report):
    """The last scores that fit, None if none fit."""
    found = fitting(report)
    if not found:
        return None
    return found[-1]


def scores_number(report):
    """How many scores fit."""
    return len(fitting(report))


def scores_at(report, index):
    """The scores with this index, all that fit ascending."""
    found = fitting(report)
    if not is_number(index) or index >= len(found):
        raise InvalidIndex(index)
    return found[index]


def index_of_scores(report, scores):
    """The index of the scores, all that fit ascending."""
    if not does_fit(report, scores):
        raise InvalidScores(scores)
    return len([other for other in fitting(report) if other < scores])
