"""The first and the last filling of a cross, and the next one behind each ([12])."""

from toldcounts.crosses import as_table, need_cross
from toldcounts.fillings import cell_places, cross_network, need_filling, numbers_in


def first_filling(cross):
    """The first filling, None if there is none."""
    return _end_filling(cross, -1)


def last_filling(cross):
    """The last filling, None if there is none."""
    return _end_filling(cross, 1)


def _end_filling(cross, sign):
    """The first filling if the sign is -1, the last one if it is 1."""
    need_cross(cross)
    network = cross_network(cross)
    if network.settle():
        return None
    return _led_on(cross, network, sign)


def _led_on(cross, network, sign):
    """The filling in which each cell in turn has as little (sign -1) or as much (sign 1) as it still can."""
    places = cell_places(cross)
    for at in places:
        network.end_of(at, sign)
        network.hold(at)
    return as_table(cross, [network.flows()[at] for at in places])


def next_filling(cross, filling):
    """The first of the fillings that are greater, None for the last one."""
    need_cross(cross)
    need_filling(cross, filling)
    numbers = numbers_in(cross, filling)
    network = cross_network(cross)
    network.take(numbers)
    places = cell_places(cross)
    told = [cell for row in cross.cells for cell in row]
    for at in places:
        network.hold(at)
    for at, (low, high) in reversed(list(zip(places, told))):
        network.bound(at, low, high)
        if network.end_of(at, 1) > numbers[at]:
            # Each number between can be had ([14]), so the cell can have just 1 more.
            network.bound(at, numbers[at] + 1, high)
            return _led_on(cross, network, -1)
    return None
