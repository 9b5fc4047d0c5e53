"""Rows as numbers, the least figure first, and the numbers that fulfil formulas."""

from rowreaders.checks import ALPHABET, NUMBERS, check_number, check_row, is_between
from rowreaders.errors import InvalidFormula, InvalidNumber, InvalidTold
from rowreaders.formulas import MOST_TRACKS, figure, formula_reader, is_formula, is_so
from rowreaders.readers import first_yes, led_from


def check_tracks(tracks):
    """Let only a number of tracks pass."""
    if not is_between(tracks, 1, MOST_TRACKS):
        raise InvalidNumber(tracks)


def check_numbers(numbers, least):
    """Let only a tuple of so many numbers, or more, up to the most tracks, pass."""
    if not isinstance(numbers, tuple) or not least <= len(numbers) <= MOST_TRACKS:
        raise InvalidTold(numbers)
    if not all([is_between(number, 0, NUMBERS - 1) for number in numbers]):
        raise InvalidTold(numbers)


def check_formula(formula, many):
    """Let only a formula of so many numbers pass."""
    if not is_formula(formula, many):
        raise InvalidFormula(formula)


def numbers_by(tracks, row):
    """The tuple of the numbers of a row."""
    check_tracks(tracks)
    check_row(1 << tracks, row)
    return numbers_of(tracks, row)


def numbers_of(tracks, row):
    """The numbers of a row, however long it is."""
    numbers = [0] * tracks
    for sign in row[::-1]:
        at = ALPHABET.index(sign)
        numbers = [2 * numbers[track] + figure(at, track) for track in range(tracks)]
    return tuple(numbers)


def row_for(numbers):
    """The shortest row of some numbers."""
    check_numbers(numbers, 1)
    return shortest_row(numbers)


def shortest_row(numbers):
    """The shortest row of one number or more."""
    row = []
    for place in range(max(numbers).bit_length()):
        figures = [number >> place & 1 for number in numbers]
        row.append(ALPHABET[sum([figures[track] << track for track in range(len(figures))])])
    return "".join(row)


def reader_for(tracks, formula):
    """The reader of all rows whose numbers fulfil the formula."""
    check_tracks(tracks)
    check_formula(formula, tracks)
    return formula_reader(tracks, formula)


def fulfils(numbers, formula):
    """Whether these numbers fulfil the formula."""
    check_numbers(numbers, 0)
    check_formula(formula, len(numbers))
    if not numbers:
        return is_so(formula)
    made = formula_reader(len(numbers), formula)
    return led_from(made, 0, shortest_row(numbers)) in made.ends


def is_true(formula):
    """Whether a formula of no numbers is fulfilled."""
    check_formula(formula, 0)
    return is_so(formula)


def first_numbers(tracks, formula):
    """The numbers that fulfil the formula whose shortest row is the first one in the order of rows, or None."""
    # The a's that one strikes from a yes row leave one, so that the first yes row is a shortest row.
    row = first_yes(reader_for(tracks, formula))
    return None if row is None else numbers_of(tracks, row)


def how_many_below(formula, number):
    """How many of the numbers below this one fulfil the formula.

    Numbers with as many figures are written side by side with it; the last figure in which they are unlike
    tells which one is less.
    """
    check_formula(formula, 1)
    check_number(number)
    made = formula_reader(1, formula)
    counts = {(0, False): 1}
    for place in range(number.bit_length()):
        top = number >> place & 1
        sums = {}
        for stand, is_less in counts:
            for sign in (0, 1):
                goal = (made.arrows[stand][sign], is_less if sign == top else sign < top)
                if goal[0] is not None:
                    sums[goal] = sums.get(goal, 0) + counts[stand, is_less]
        counts = sums
    return sum([counts[end, True] for end in made.ends if (end, True) in counts])
