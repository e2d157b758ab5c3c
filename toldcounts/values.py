"""What many arguments are checked for, and how numbers stand in texts ([3])."""

_MOST_LETTERS = 8
# Python itself writes and reads integers of some thousands of digits only; so many at once it always does.
_DIGITS_AT_ONCE = 100


def is_integer(value):
    """Whether it is an integer; True and False are none."""
    return isinstance(value, int) and not isinstance(value, bool)


def is_number(value):
    """Whether it is an integer from 0 on."""
    return is_integer(value) and value >= 0


def are_numbers(value, many):
    """Whether it is a tuple of so many integers from 0 on."""
    return isinstance(value, tuple) and len(value) == many and all([is_number(number) for number in value])


def is_name(value):
    """Whether it is a string of one to eight letters from a to z."""
    if not isinstance(value, str) or len(value) > _MOST_LETTERS:
        return False
    return value.isascii() and value.isalpha() and value.islower()


def wrong_at(values, is_right):
    """The index of the first one that is not right, or not greater than the one before it; None if there is none."""
    for at, value in enumerate(values):
        if not is_right(value) or (at > 0 and value <= values[at - 1]):
            return at
    return None


def ascending(values):
    """A tuple of the values, ascending, each of them once."""
    return tuple(sorted(set(values)))


def holds_one(some, lots):
    """Whether one of the lots is a part of that."""
    return any([all([value in some for value in lot]) for lot in lots])


def _unit():
    """The least integer that has more digits than are written and read at once."""
    return int("1" + "0" * _DIGITS_AT_ONCE)


def number_text(number):
    """The decimal digits of an integer from 0 on, however many they are."""
    unit = _unit()
    parts = []
    while number >= unit:
        number, rest = divmod(number, unit)
        parts.append(f"{rest}".zfill(_DIGITS_AT_ONCE))
    return "".join([f"{number}", *parts[::-1]])


def _number_with(digits):
    """The integer with these decimal digits, however many they are."""
    unit = _unit()
    head = len(digits) % _DIGITS_AT_ONCE
    number = int("0" + digits[:head])
    for at in range(head, len(digits), _DIGITS_AT_ONCE):
        number = number * unit + int(digits[at:at + _DIGITS_AT_ONCE])
    return number


def read_number(text):
    """The integer from 0 on that stands there, None if none does."""
    if not (text.isascii() and text.isdigit()):
        return None
    if text[0] == "0" and text != "0":
        return None
    return _number_with(text)
