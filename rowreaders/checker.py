"""The checker: whether a paper shows a claim.

Each of the functions whose names begin with shows is called with all that stands behind the word of a claim, and
with the paper, whatever these are.
"""

from rowreaders.books import is_book
from rowreaders.checks import ALPHABET, is_arrows, is_between, is_integer, is_long_row, is_lot, is_stands
from rowreaders.delays import longer_delay
from rowreaders.duels import goals_by, goals_by_plan, is_plan, turns_of
from rowreaders.likeness import flags_at_pair, goals_of_pair
from rowreaders.limits import MOST_ROW, MOST_SIGNS
from rowreaders.listing import counts_up_to
from rowreaders.minimal import reached
from rowreaders.readers import Reader, end_flags, is_full, led_from, useful


def is_triple(value):
    """Whether a value is a triple that makes a reader."""
    if not isinstance(value, tuple) or len(value) != 3:
        return False
    signs, arrows, ends = value
    return is_between(signs, 1, MOST_SIGNS) and is_arrows(arrows, signs) and is_stands(ends, len(arrows))


def reader_ahead(values, many):
    """The reader of the triple ahead of so many values in all; None if they are not so many, or it is none."""
    if len(values) != many or not is_triple(values[0]):
        return None
    signs, arrows, ends = values[0]
    return Reader(signs, arrows, ends)


def two_readers(values):
    """The readers of two triples; None if these are no two, or have not as many signs."""
    reader, other = reader_ahead(values, 2), reader_ahead(values[::-1], 2)
    if reader is None or other is None or reader.signs != other.signs:
        return None
    return reader, other


def is_natural(value):
    """Whether a value is an integer from 0 on."""
    return is_integer(value) and value >= 0


def is_nothing(value):
    """Whether a value is the empty tuple."""
    return isinstance(value, tuple) and not value


def is_goal(value, size):
    """Whether a value is a stand, of which there are so many, or None."""
    return value is None or is_between(value, 0, size - 1)


def has_yes_row(reader, row):
    """Whether a row of signs of the reader is a yes row."""
    return led_from(reader, 0, row) in reader.ends


def shows_same(values, paper):
    """Whether the paper has pairs of stands of both readers, ends both of them or none, to which signs keep."""
    return keeps_pairs(two_readers(values), paper, ((True, True), (False, False)))


def shows_within(values, paper):
    """Whether the paper has pairs of stands, the other one an end if the one is, to which signs keep."""
    return keeps_pairs(two_readers(values), paper, ((True, True), (False, False), (False, True)))


def keeps_pairs(readers, paper, allowed):
    """Whether the paper has pairs of stands to which signs keep, which are ends as it is allowed."""
    if readers is None or not isinstance(paper, tuple):
        return False
    reader, other = readers
    if not all([is_pair(pair, len(reader), len(other)) for pair in paper]):
        return False
    told = {pair: True for pair in paper}
    if len(told) != len(paper) or (0, 0) not in told:
        return False
    here, there = end_flags(reader), end_flags(other)
    for pair in paper:
        if flags_at_pair(here, there, pair) not in allowed:
            return False
        if not all([goal in told for goal in goals_of_pair(reader, other, pair)]):
            return False
    return True


def is_pair(value, size, other_size):
    """Whether a value is a pair of stands or None, of which there are so many."""
    if not isinstance(value, tuple) or len(value) != 2:
        return False
    return is_goal(value[0], size) and is_goal(value[1], other_size)


def shows_apart(values, paper):
    """Whether the paper is a yes row of one of both readers alone."""
    readers = two_readers(values)
    if readers is None or not is_long_row(paper, readers[0].signs):
        return False
    return has_yes_row(readers[0], paper) != has_yes_row(readers[1], paper)


def shows_outside(values, paper):
    """Whether the paper is a yes row of the one reader that is none of the other one."""
    readers = two_readers(values)
    if readers is None or not is_long_row(paper, readers[0].signs):
        return False
    return has_yes_row(readers[0], paper) and not has_yes_row(readers[1], paper)


def shows_least(values, paper):
    """Whether the paper has rows that lead to all stands, and rows that part each two of them."""
    reader = reader_ahead(values, 1)
    if reader is None or not isinstance(paper, tuple) or len(paper) != 2:
        return False
    size = len(reader)
    pairs = [(one, two) for one in range(size) for two in range(one + 1, size)]
    rows, partings = paper
    if not is_rows(rows, reader.signs, size) or not is_rows(partings, reader.signs, len(pairs)):
        return False
    if not all([led_from(reader, 0, rows[stand]) == stand for stand in range(size)]):
        return False
    if len(useful(reader)) < size and (size > 1 or not is_bare(reader)):
        return False
    flags = end_flags(reader)
    return all([parts(reader, flags, pair, row) for pair, row in zip(pairs, partings)])


def is_rows(value, signs, many):
    """Whether a value is a tuple of so many rows of so many signs."""
    return isinstance(value, tuple) and len(value) == many and all([is_long_row(row, signs) for row in value])


def is_bare(reader):
    """Whether the reader has neither arrows nor ends."""
    return not reader.ends and all([goal is None for goals in reader.arrows for goal in goals])


def parts(reader, flags, pair, row):
    """Whether a row leads just one of a pair of stands to an end."""
    goals = (led_from(reader, pair[0], row), led_from(reader, pair[1], row))
    one, two = flags_at_pair(flags, flags, goals)
    return one != two


def reader_with_books(values):
    """The reader ahead of two books for it, None if these are no such values."""
    reader = reader_ahead(values, 3)
    if reader is None or not all([is_book(book, reader.signs, MOST_SIGNS) for book in values[1:]]):
        return None
    return reader


def shows_agree(values, paper):
    """Whether the paper tells of each useful stand which version is ahead of the other one, and by what."""
    reader = reader_with_books(values)
    if reader is None or not isinstance(paper, tuple) or len(paper) != len(reader):
        return False
    stands = useful(reader)
    for stand in range(len(reader)):
        if not (is_delay(paper[stand]) if stand in stands else paper[stand] is None):
            return False
    if not all([paper[stand] == (0, "") for stand in stands if stand == 0 or stand in reader.ends]):
        return False
    return all([follows(reader, stand, values[1:], paper) for stand in stands])


def is_delay(value):
    """Whether a value is a pair of a side, 0 or 1, and a string."""
    if not isinstance(value, tuple) or len(value) != 2:
        return False
    return is_between(value[0], 0, 1) and isinstance(value[1], str)


def follows(reader, stand, books, paper):
    """Whether what is told of the useful stands behind a useful one is what follows along the arrows."""
    for sign in range(reader.signs):
        goal = reader.arrows[stand][sign]
        told = None if goal is None else paper[goal]
        if told is not None and longer_delay(paper[stand], books[0][sign], books[1][sign]) != told:
            return False
    return True


def shows_differ(values, paper):
    """Whether the paper is a yes row with unlike versions."""
    reader = reader_with_books(values)
    if reader is None or not is_long_row(paper, reader.signs) or not has_yes_row(reader, paper):
        return False
    signs = [ALPHABET.index(sign) for sign in paper]
    return "".join([values[1][sign] for sign in signs]) != "".join([values[2][sign] for sign in signs])


def reader_in_duel(values, many):
    """The reader ahead of two lots of its signs, so many values in all; None if these are no such values."""
    reader = reader_ahead(values, many)
    if reader is None or not all([is_lot(lot, reader.signs) and lot for lot in values[1:3]]):
        return None
    return reader


def shows_forces(values, paper):
    """Whether the paper is a plan by which the row becomes a yes row with so many signs at most."""
    reader = reader_in_duel(values, 4)
    if reader is None or not is_natural(values[3]) or not is_plan(paper, len(reader), values[1]):
        return False
    turns = turns_of(reader, values[1], values[2], paper)
    return turns is not None and turns <= values[3]


def shows_bars(values, paper):
    """Whether the paper is a plan by which the row never becomes a yes row."""
    reader = reader_in_duel(values, 3)
    if reader is None or not is_plan(paper, len(reader), values[2]):
        return False
    links = []
    # Each stand has two places, ahead of the first one's turn and ahead of the second one's.
    for mine, others in zip(goals_by(reader, values[1]), goals_by_plan(reader, values[2], paper)):
        links.append([2 * goal + 1 for goal in mine if goal is not None])
        links.append([2 * goal for goal in others if goal is not None])
    met = reached(links, [0])
    return not any([met[2 * end] or met[2 * end + 1] for end in reader.ends])


def shows_resets(values, paper):
    """Whether the reader is full, and the row leads all its stands to one; there is nothing in the paper."""
    reader = reader_ahead(values, 2)
    if reader is None or not is_full(reader) or not is_long_row(values[1], reader.signs) or not is_nothing(paper):
        return False
    stands = {stand: True for stand in range(len(reader))}
    for sign in values[1]:
        at = ALPHABET.index(sign)
        stands = {reader.arrows[stand][at]: True for stand in stands}
    return len(stands) == 1


def shows_parted(values, paper):
    """Whether the reader is full, and the paper has pairs of different stands to which all signs keep."""
    reader = reader_ahead(values, 1)
    if reader is None or not is_full(reader) or not isinstance(paper, tuple) or not paper:
        return False
    if not all([is_stands(pair, len(reader)) and len(pair) == 2 for pair in paper]):
        return False
    told = {pair: True for pair in paper}
    for one, two in paper:
        if not all([(min(goal), max(goal)) in told for goal in zip(reader.arrows[one], reader.arrows[two])]):
            return False
    return len(told) == len(paper)


def shows_count(values, paper):
    """Whether there are so many yes rows of this length; there is nothing in the paper."""
    reader = reader_ahead(values, 3)
    if reader is None or not is_between(values[1], 0, MOST_ROW) or not is_natural(values[2]):
        return False
    return is_nothing(paper) and counts_up_to(reader, values[1])[values[1]][0] == values[2]


CHECKS = {"same": shows_same, "within": shows_within, "apart": shows_apart, "outside": shows_outside,
          "least": shows_least, "agree": shows_agree, "differ": shows_differ, "forces": shows_forces,
          "bars": shows_bars, "resets": shows_resets, "parted": shows_parted, "count": shows_count}


def accepts(claim, paper):
    """Whether the claim is one for the checker, and the paper shows it."""
    if not isinstance(claim, tuple) or not claim or not isinstance(claim[0], str) or claim[0] not in CHECKS:
        return False
    shows = CHECKS[claim[0]]
    return shows(claim[1:], paper)
