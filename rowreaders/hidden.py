"""Hidden readers: those that fit what is told, rows that test a reader, and a reader that is found by asking."""

from rowreaders.asking import Table
from rowreaders.checks import ALPHABET, check_row, is_between, is_row
from rowreaders.errors import InvalidNumber, InvalidSigns, InvalidTold, TooMany
from rowreaders.likeness import first_fronts, full_least, least
from rowreaders.minimal import least_parts
from rowreaders.partings import parting_rows
from rowreaders.readers import Reader, check_reader, led_from

MOST_HIDDEN_SIGNS = 2
MOST_HIDDEN = 3
MOST_TOLD = 12
MOST_TOLD_SIGNS = 8
MOST_MORE = 1
MOST_TESTED = 6
MOST_LEARNED_SIGNS = 4


def check_hidden_signs(signs, most):
    """Let only a number of signs pass that is not above the most."""
    if not is_between(signs, 1, most):
        raise InvalidSigns(signs)


def check_hidden_stands(stands):
    """Let only a number of stands pass."""
    if not is_between(stands, 1, MOST_HIDDEN):
        raise InvalidNumber(stands)


def check_told(signs, rows):
    """Let only few short rows of so many signs pass."""
    if not isinstance(rows, tuple) or len(rows) > MOST_TOLD:
        raise InvalidTold(rows)
    if not all([is_row(row, signs, MOST_TOLD_SIGNS) for row in rows]):
        raise InvalidTold(rows)


def all_arrows(signs, size):
    """All arrows of so many stands that are numbered by first rows, ascending, None being less than any stand."""
    flat = [((), 1)]
    for at in range(signs * size):
        # Stands that are not met by then are not numbered by first rows.
        flat = [(goals + (goal,), max(met, goal + 1) if goal is not None else met)
                for goals, met in flat if met > at // signs
                for goal in [None] + list(range(min(met + 1, size)))]
    return [tuple([goals[at:at + signs] for at in range(0, len(goals), signs)]) for goals, met in flat if met == size]


def all_ends(size):
    """All ascending tuples of stands, ascending."""
    lots = [()]
    for stand in range(size):
        lots = lots + [lot + (stand,) for lot in lots]
    return sorted(lots)


def is_fit(reader, yes, no):
    """Whether the rows of the one are yes rows, those of the other one no rows."""
    return (all([led_from(reader, 0, row) in reader.ends for row in yes])
            and not any([led_from(reader, 0, row) in reader.ends for row in no]))


def fitting_with(signs, size, yes, no):
    """The least readers with just so many stands that fit, ascending by their arrows, then by their ends."""
    made = []
    for arrows in all_arrows(signs, size):
        for ends in all_ends(size):
            reader = Reader(signs, arrows, ends)
            if is_fit(reader, yes, no) and least_parts(signs, arrows, ends, size) == (arrows, ends):
                made.append(reader)
    return made


def fewest_stands(signs, yes, no):
    """The fewest stands of a reader that fits, or None if none has so few that it can be found."""
    check_hidden_signs(signs, MOST_HIDDEN_SIGNS)
    check_told(signs, yes)
    check_told(signs, no)
    for size in range(1, MOST_HIDDEN + 1):
        if fitting_with(signs, size, yes, no):
            return size
    return None


def fitting(signs, stands, yes, no):
    """All least readers that fit, those with fewer stands first."""
    check_hidden_signs(signs, MOST_HIDDEN_SIGNS)
    check_hidden_stands(stands)
    check_told(signs, yes)
    check_told(signs, no)
    made = []
    for size in range(1, stands + 1):
        made += fitting_with(signs, size, yes, no)
    return tuple(made)


def sure_answer(signs, stands, yes, no, row):
    """What all readers that fit say of a row; None if they do not say the same, or if there are none."""
    made = fitting(signs, stands, yes, no)
    check_row(signs, row)
    said = [led_from(reader, 0, row) in reader.ends for reader in made]
    return said[0] if said and said.count(said[0]) == len(said) else None


def rows_to(signs, length):
    """All rows of so many signs up to this length, in the order of rows."""
    rows = [""]
    longest = [""]
    for _ in range(length):
        longest = [row + sign for row in longest for sign in ALPHABET[:signs]]
        rows += longest
    return rows


def test_rows(reader, more):
    """Any rows that no reader with so many stands more passes as this one does but those that say the same.

    The first rows to all stands, all steps from there that more stands may hide, and rows that part all stands.
    """
    check_reader(reader)
    if not is_between(more, 0, MOST_MORE):
        raise InvalidNumber(more)
    many = len(least(reader))
    if many > MOST_TESTED:
        raise TooMany(MOST_TESTED)
    arrows, ends = full_least(reader)
    # Another reader may need a stand more to be full, if all rows are looked at.
    steps = rows_to(reader.signs, many + more + 2 - len(arrows))
    apart = list({row: True for row in [""] + list(parting_rows(reader.signs, arrows, ends).values())})
    rows = [front + step + rest for front in first_fronts(arrows) for step in steps for rest in apart]
    return tuple(list({row: True for row in rows}))


def learned(signs, says, apart):
    """The least reader that is found by asking, and how many guesses it took."""
    check_hidden_signs(signs, MOST_LEARNED_SIGNS)
    table = Table(signs, says)
    guesses = 0
    while True:
        rows, arrows = table.settled()
        made = table.guess(rows, arrows)
        guesses += 1
        row = apart(made)
        if row is None:
            return made, guesses
        table.learn(rows, arrows, row)
