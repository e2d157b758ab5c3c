"""Wishes for things ([29])."""

from toldcounts.errors import InvalidWish, NoData
from toldcounts.stretches import is_stretch
from toldcounts.things import data_number, has_data, is_place, need_thing, place_range
from toldcounts.values import is_integer

# How long each wish is.
_LENGTHS = {"fits": 1, "lone": 1, "fewer": 2, "value": 3}


def is_wish(value):
    """Whether it is a wish, whatever stands for the place."""
    if not isinstance(value, tuple) or len(value) == 0 or not isinstance(value[0], str):
        return False
    if _LENGTHS.get(value[0]) != len(value):
        return False
    if value[0] == "fewer":
        return is_integer(value[1]) and value[1] >= 1
    return value[0] != "value" or is_stretch(value[2])


def need_wish(wish):
    if not is_wish(wish):
        raise InvalidWish(wish)


def suits(thing, wish):
    """Whether the wish suits the thing."""
    need_thing(thing)
    need_wish(wish)
    return wish[0] != "value" or is_place(thing, wish[1])


def does_hold(thing, wish):
    """Whether the wish holds for the thing."""
    if not suits(thing, wish):
        raise InvalidWish(wish)
    if wish[0] == "fits":
        return has_data(thing)
    if wish[0] == "lone":
        return data_number(thing) == 1
    if wish[0] == "fewer":
        return data_number(thing) < wish[1]
    return _has_value(thing, wish[1], wish[2])


def _has_value(thing, place, stretch):
    """Whether there are data, and in all of them what the place has lies in the stretch."""
    try:
        low, high = place_range(thing, place)
    except NoData:
        return False
    return stretch[0] <= low and high <= stretch[1]
