"""In how many ways a table can be filled, its cells taken from the last one to the first one.

Each cell has a number from 0 to its WIDE. A window is what the sum of a row must lie in, None for any; a lot tells
the same of the sum of all cells in some rows and columns.

What the cells so far have in each lot that is open is one integer, the state, with a digit for each lot. The ways
are kept in a dict by states. Within a row with a window they have digits themselves, called slots: one for each sum
that the row can have so far.
"""

# Sums are at most 40, so that a digit from which too much is taken away can not be taken for a sum.
_DIGIT_BITS = 7
_DIGIT_MASK = 127


class Tally:
    """The ways to fill a table."""

    def __init__(self, wides, windows, lots):
        self._wides = wides
        self._windows = windows
        self._lots = lots
        self._slot = _slot_bits(wides)
        self._behind = [{0: 1}]
        for row in reversed(range(1, len(wides))):
            self._behind.insert(0, self._with_row(row, self._behind[0]))
        self._behind.insert(0, {})

    def ways(self, row, column, filled):
        """In how many ways all cells behind this one can be filled, for each number of the cell.

        The rows of numbers in all cells before it are filled.
        """
        table = self._with_cells(row, column + 1, self._behind[row + 1])
        window = self._windows[row]
        if window is not None:
            had = sum(filled[row])
            window = (window[0] - had, window[1] - had)
        found = [0] * (self._wides[row][column] + 1)
        for (least, most), slots in self._between(row, column, filled, table).items():
            for number in range(least, most + 1):
                found[number] += self._ways_in(slots, window, number)
        return found

    def _with_row(self, row, table):
        """The table with all cells of a row put before the others, without the lots of which it is the first row."""
        found = {}
        closing = [at for at, lot in enumerate(self._lots) if min(lot[0]) == row]
        for state, slots in self._with_cells(row, 0, table).items():
            ways = self._ways_in(slots, self._windows[row], 0)
            for at in closing:
                low, high = self._lots[at][2]
                digit = _digit(state, at)
                if not low <= digit <= high:
                    ways = 0
                state -= digit << at * _DIGIT_BITS
            if ways > 0:
                found[state] = found.get(state, 0) + ways
        return found

    def _with_cells(self, row, first, table):
        """The table with the cells of a row from this one on put before the others."""
        slot, mask = 0, (1 << self._slot) - 1
        if self._windows[row] is not None:
            slot, mask = self._slot, (1 << self._slot * (self._windows[row][1] + 1)) - 1
        for column in reversed(range(first, len(self._wides[row]))):
            limits = [(at, self._lots[at][2][1]) for at in self._touched(row, column)]
            table = _widened(table, self._wides[row][column], limits, slot, mask)
        return table

    def _touched(self, row, column):
        """The places of the lots in which a cell lies."""
        return [at for at, lot in enumerate(self._lots) if row in lot[0] and column in lot[1]]

    def _ways_in(self, slots, window, number):
        """The ways in those slots that, with this number more, lie in the window."""
        if window is None:
            return slots
        low, high = window
        if high < number:
            return 0
        upper = slots & ((1 << self._slot * (high - number + 1)) - 1)
        # A power of the base is 1 more than a multiple of the base less 1: the sum of all digits is left.
        return (upper >> self._slot * max(0, low - number)) % ((1 << self._slot) - 1)

    def _between(self, row, column, filled, table):
        """For each pair (LEAST, MOST): in which slots the lots let the cell have just the numbers between these."""
        touched, others = [], []
        for at, (rows, columns, (low, high)) in enumerate(self._lots):
            if min(rows) <= row:
                had = _had(rows, columns, filled)
                if row in rows and column in columns:
                    touched.append((at, low - had, high - had))
                else:
                    others.append((at, low - had, high - had))
        wide = self._wides[row][column]
        found = {}
        for state, slots in table.items():
            if all([low <= _digit(state, at) <= high for at, low, high in others]):
                least = max([0, *[low - _digit(state, at) for at, low, _ in touched]])
                most = min([wide, *[high - _digit(state, at) for at, _, high in touched]])
                found[(least, most)] = found.get((least, most), 0) + slots
        return found


def _slot_bits(wides):
    """So many bits that they can hold more than all ways there are."""
    most = 2
    for row in wides:
        for wide in row:
            most *= wide + 1
    return most.bit_length()


def _digit(state, at):
    return (state >> at * _DIGIT_BITS) & _DIGIT_MASK


def _had(rows, columns, filled):
    """What is in these rows and columns already."""
    total = 0
    for row, numbers in enumerate(filled):
        if row in rows:
            total += sum([number for column, number in enumerate(numbers) if column in columns])
    return total


def _many_times(slots, wide, slot):
    """The sum of the slots moved on by each number that a cell can have."""
    return sum([slots << slot * number for number in range(wide + 1)])


def _widened(table, wide, limits, slot, mask):
    """The table with one more cell, which counts in each of the limited digits."""
    if not limits:
        return {state: _many_times(slots, wide, slot) & mask for state, slots in table.items()}
    step = sum([1 << at * _DIGIT_BITS for at, _ in limits])
    far, far_slot = step * (wide + 1), slot * (wide + 1)
    found = {}
    for start in sorted(list(table)):
        state = start
        room = min([high - _digit(start, at) for at, high in limits])
        while room >= 0 and state not in found:
            # What led to the state one step before leads here by 1 more, but for what is too far off by now.
            slots = table.get(state, 0) + (found.get(state - step, 0) << slot) - (table.get(state - far, 0) << far_slot)
            slots &= mask
            if slots == 0:
                break
            found[state] = slots
            state += step
            room -= 1
    return found
