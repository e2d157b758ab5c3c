"""Stretches ([6]): from which number to which one."""

from toldcounts.errors import InvalidStretch, InvalidText
from toldcounts.limits import MOST_NUMBER
from toldcounts.values import is_integer, read_number


def is_stretch(value):
    """Whether it is a pair (LOW, HIGH) of integers from 0 to 4000, LOW at most HIGH."""
    if not isinstance(value, tuple) or len(value) != 2:
        return False
    low, high = value
    return is_integer(low) and is_integer(high) and 0 <= low <= high <= MOST_NUMBER


def need_stretch(stretch):
    if not is_stretch(stretch):
        raise InvalidStretch(stretch)


def lies_in(number, stretch):
    """Whether the integer lies in the stretch."""
    return stretch[0] <= number <= stretch[1]


def beside(stretch, ends):
    """The part of the stretch below the ends, and the one above them; None for one that is empty."""
    below = (stretch[0], ends[0] - 1)
    above = (ends[1] + 1, stretch[1])
    return [part if part[0] <= part[1] else None for part in (below, above)]


def text_of_stretch(stretch):
    """The text of a pair that is known to be a stretch."""
    low, high = stretch
    if low == high:
        return f"{low}"
    return f"{low}-{high}"


def stretch_in_text(text):
    """The stretch with this text, None if there is none."""
    if not isinstance(text, str):
        return None
    numbers = tuple([read_number(word) for word in text.split("-")])
    stretch = (numbers[0], numbers[-1])
    if not is_stretch(stretch) or text_of_stretch(stretch) != text:
        return None
    return stretch


def stretch_text(stretch):
    """The text of a stretch."""
    need_stretch(stretch)
    return text_of_stretch(stretch)


def read_stretch(text):
    """The stretch with this text."""
    stretch = stretch_in_text(text)
    if stretch is None:
        raise InvalidText(text)
    return stretch


def in_both(stretch, other_stretch):
    """The stretch of all integers that lie in both, None if there are none."""
    need_stretch(stretch)
    need_stretch(other_stretch)
    low = max(stretch[0], other_stretch[0])
    high = min(stretch[1], other_stretch[1])
    if low > high:
        return None
    return (low, high)
