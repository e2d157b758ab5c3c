"""Reports: what is told of some people's scores on a scale ([19])."""

from toldcounts.errors import InvalidFact, InvalidFacts, InvalidIndex, InvalidPeople, InvalidScale, InvalidText
from toldcounts.errors import NotAReport, TooMany
from toldcounts.limits import MOST_FACTS, MOST_PEOPLE
from toldcounts.scores import is_places, need_people, need_scale
from toldcounts.stretches import is_stretch, lies_in, stretch_in_text, text_of_stretch
from toldcounts.values import is_integer, is_number, number_text, read_number

# The parts of each fact, behind the word at its head.
_PARTS = {"mean": ("places", "number"), "spread": ("places", "number"), "total": ("stretch",), "middle": ("score",),
          "least": ("score",), "greatest": ("score",), "holders": ("score", "stretch")}


class Report:
    """So many people, a scale, and facts about their scores; it never changes."""

    def __init__(self, people, scale, facts):
        need_people(people, MOST_PEOPLE)
        need_scale(scale)
        _need_facts(facts, scale)
        self._people = people
        self._scale = scale
        self._facts = facts
        lines = [f"report {people} {text_of_stretch(scale)}", *[_fact_text(fact) for fact in facts]]
        self._text = "\n".join(lines)

    @classmethod
    def told(cls, text):
        """The report with this text."""
        if not isinstance(text, str):
            raise InvalidText(text)
        lines = text.split("\n")
        words = lines[0].split(" ")
        if len(words) != 3:
            raise InvalidText(text)
        facts = tuple([_read_fact(line) for line in lines[1:]])
        try:
            report = cls(read_number(words[1]), stretch_in_text(words[2]), facts)
        except (InvalidPeople, InvalidScale, InvalidFacts):
            raise InvalidText(text) from None
        if report.text != text:
            raise InvalidText(text)
        return report

    @property
    def people(self):
        return self._people

    @property
    def scale(self):
        return self._scale

    @property
    def facts(self):
        return self._facts

    @property
    def text(self):
        return self._text

    def more(self, fact):
        """The report with this fact behind the others."""
        if not _is_fact(fact, self._scale):
            raise InvalidFact(fact)
        if len(self._facts) == MOST_FACTS:
            raise TooMany(MOST_FACTS + 1)
        return Report(self._people, self._scale, (*self._facts, fact))

    def without(self, index):
        """The report without the fact with this index."""
        if not is_number(index) or index >= len(self._facts):
            raise InvalidIndex(index)
        return Report(self._people, self._scale, (*self._facts[:index], *self._facts[index + 1:]))

    def __eq__(self, other):
        return isinstance(other, Report) and self._text == other._text

    def __str__(self):
        return str(self._text)

    def __len__(self):
        return len(self._facts)

    def __bool__(self):
        return True


def need_report(report):
    if not isinstance(report, Report):
        raise NotAReport(report)


def is_score(value, scale):
    """Whether it is an integer that lies in the scale."""
    return is_integer(value) and lies_in(value, scale)


def _is_part(value, kind, scale):
    """Whether it can be a part of this kind."""
    if kind == "places":
        return is_places(value)
    if kind == "number":
        return is_number(value)
    if kind == "stretch":
        return is_stretch(value)
    return is_score(value, scale)


def _is_fact(value, scale):
    """Whether it is a fact about scores on the scale."""
    if not isinstance(value, tuple) or len(value) == 0 or not isinstance(value[0], str) or value[0] not in _PARTS:
        return False
    kinds = _PARTS[value[0]]
    if len(value) != len(kinds) + 1:
        return False
    return all([_is_part(part, kind, scale) for part, kind in zip(value[1:], kinds)])


def _need_facts(facts, scale):
    """Raises InvalidFacts for what is no tuple of up to six facts about scores on the scale."""
    if not isinstance(facts, tuple):
        raise InvalidFacts(None)
    for at, fact in enumerate(facts):
        if at == MOST_FACTS or not _is_fact(fact, scale):
            raise InvalidFacts(at)


def _fact_text(fact):
    words = [fact[0]]
    for part in fact[1:]:
        words.append(text_of_stretch(part) if isinstance(part, tuple) else number_text(part))
    return " ".join(words)


def _read_part(word, kind):
    """The part of this kind with this text, None if there is none."""
    if kind == "stretch":
        return stretch_in_text(word)
    return read_number(word)


def _read_fact(line):
    """What stands in a line of a text, as far as it can be read; it need be no fact."""
    words = line.split(" ")
    kinds = _PARTS.get(words[0], ())
    return (words[0], *[_read_part(word, kind) for word, kind in zip(words[1:], kinds)])
