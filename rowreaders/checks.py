"""What is asked of values that are passed, whatever they are."""

from rowreaders.errors import InvalidNumber, InvalidRow, InvalidSigns
from rowreaders.limits import MOST_ROW, MOST_SIGNS, MOST_STANDS

ALPHABET = "abcdefgh"
FIGURES = "0123456789"
NUMBERS = 10 ** 40


def is_integer(value):
    """True and False count as no integers."""
    return isinstance(value, int) and not isinstance(value, bool)


def is_between(value, low, high):
    """Whether a value is an integer from low to high."""
    return is_integer(value) and low <= value <= high


def is_row(value, signs, most):
    """Whether a value is a row of so many signs that has at most so many of them."""
    if not isinstance(value, str) or len(value) > most:
        return False
    letters = ALPHABET[:signs]
    return all([sign in letters for sign in value])


def is_long_row(value, signs):
    """Whether a value is a row of so many signs, however long it is."""
    return isinstance(value, str) and is_row(value, signs, len(value))


def number_in(text):
    """The integer that decimal figures without needless zeros tell, or None."""
    if not text or text[0] == "0" and len(text) > 1:
        return None
    return int(text) if all([sign in FIGURES for sign in text]) else None


def is_ascending(values):
    """Whether each of these is less than the next one."""
    return all([values[at] < values[at + 1] for at in range(len(values) - 1)])


def is_stands(value, size):
    """Whether a value is an ascending tuple of stands, of which there are so many."""
    if not isinstance(value, tuple):
        return False
    return all([is_between(stand, 0, size - 1) for stand in value]) and is_ascending(value)


def is_arrows(value, signs):
    """Whether a value is a tuple of tuples with a stand or None for each sign."""
    if not isinstance(value, tuple) or not 1 <= len(value) <= MOST_STANDS:
        return False
    return all([is_goals(goals, signs, len(value)) for goals in value])


def is_goals(value, signs, size):
    """Whether a value has a stand or None for each sign."""
    if not isinstance(value, tuple) or len(value) != signs:
        return False
    return all([goal is None or is_between(goal, 0, size - 1) for goal in value])


def is_lot(value, signs):
    """Whether a value is an ascending string of unlike signs, perhaps empty."""
    return is_row(value, signs, signs) and is_ascending(value)


def row_order(row):
    """What sorts rows into the order of rows."""
    return len(row), row


def check_signs(signs):
    """Let only a number of signs pass."""
    if not is_between(signs, 1, MOST_SIGNS):
        raise InvalidSigns(signs)


def check_row(signs, row):
    """Let only a row of so many signs pass."""
    if not is_row(row, signs, MOST_ROW):
        raise InvalidRow(row)


def check_length(length):
    """Let only a length pass of which rows may be asked for."""
    if not is_between(length, 0, MOST_ROW):
        raise InvalidNumber(length)


def check_number(number):
    """Let only a number pass that is not too great."""
    if not is_between(number, 0, NUMBERS - 1):
        raise InvalidNumber(number)
