"""Roundings of fillings that still add up ([17])."""

from toldcounts.arearoundings import need_base, rounded_stretch
from toldcounts.crosses import cross_told_anew, need_cross
from toldcounts.fillings import is_filling, is_table, need_filling, numbers_in
from toldcounts.firsts import first_filling


def rounding_cross(cross, filling, base):
    """The cross whose fillings, times the base, are the roundings of the filling."""
    need_cross(cross)
    need_filling(cross, filling)
    need_base(base)
    return cross_told_anew(cross, [rounded_stretch(number, base) for number in numbers_in(cross, filling)])


def is_rounding(cross, filling, base, value):
    """Whether it is a rounding of the filling."""
    rounded = rounding_cross(cross, filling, base)
    if not is_table(cross, value) or any([number % base != 0 for row in value for number in row]):
        return False
    return is_filling(rounded, tuple([tuple([number // base for number in row]) for row in value]))


def first_rounding(cross, filling, base):
    """The first rounding of the filling."""
    rounded = first_filling(rounding_cross(cross, filling, base))
    return tuple([tuple([number * base for number in row]) for row in rounded])


def either_way_cells(cross, filling, base):
    """The cells that are below their numbers in some rounding and above them in another one."""
    need_cross(cross)
    need_filling(cross, filling)
    need_base(base)
    # Divided by the base the filling is a mean of roundings, so each number that is no multiple is rounded either way.
    cells = [(row, column, number) for row, numbers in enumerate(filling) for column, number in enumerate(numbers)]
    return tuple([(row, column) for row, column, number in cells if number % base != 0])
