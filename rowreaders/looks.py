"""Marks of rows: what one keeps of a row, sign by sign, such as its look or its strewn pieces.

A table has for each mark, by number, the numbers of those that come of it by the signs; mark 0 is that of the
empty row. Two rows with the same mark, of which one alone is a yes row, show that the mark is not enough.
"""

from rowreaders.checks import ALPHABET
from rowreaders.crowds import stands_of
from rowreaders.errors import TooMany
from rowreaders.likeness import full_least
from rowreaders.limits import MOST_LOOKS
from rowreaders.seeking import row_back


def table_of(signs, begin, step):
    """The table of the marks that step makes of a mark and a sign; there may not be too many."""
    marks = [begin]
    number = {begin: 0}
    table = []
    while len(table) < len(marks):
        goals = []
        for sign in range(signs):
            mark = step(marks[len(table)], sign)
            if mark not in number:
                if len(marks) == MOST_LOOKS:
                    raise TooMany(MOST_LOOKS)
                number[mark] = len(marks)
                marks.append(mark)
            goals.append(number[mark])
        table.append(goals)
    return table


def looks_table(signs, size):
    """The table of looks.

    A look is told by the first and the last signs and the lot of pieces; there is none of these in rows that
    are shorter than the size, of which all signs are the first ones, and the last ones, too.
    """
    def longer(look, sign):
        front, back, lot = look
        piece = back + ALPHABET[sign]
        if len(piece) < size:
            return piece, piece, 0
        return front, piece[1:], lot | 1 << place_of(signs, piece)
    return table_of(signs, ("", "", 0), longer)


def place_of(signs, row):
    """The place of a row among all rows of so many signs, in the order of rows."""
    place = 0
    for sign in row:
        place = place * signs + ALPHABET.index(sign) + 1
    return place


def strewn_table(signs, size):
    """The table of the lots of strewn pieces of up to so many signs, each piece a bit at its place."""
    # These pieces are shorter than the size, so each sign makes longer ones of them.
    short = (1 << place_of(signs, ALPHABET[0] * size)) - 1

    def longer(lot, sign):
        for place in stands_of(lot & short):
            lot |= 1 << place * signs + sign + 1
        return lot
    return table_of(signs, 1, longer)


def unlike_pair(reader, table):
    """A yes row and a no row with the same mark, or None."""
    arrows, ends = full_least(reader)
    begin = (0, 0)
    origin = {begin: None}
    waiting = [begin]
    found = {}
    at = 0
    while at < len(waiting):
        mark, stand = waiting[at]
        is_end = stand in ends
        if (mark, is_end) not in found:
            found[mark, is_end] = waiting[at]
            if (mark, not is_end) in found:
                return row_back(origin, found[mark, True]), row_back(origin, found[mark, False])
        for sign in range(reader.signs):
            goal = (table[mark][sign], arrows[stand][sign])
            if goal not in origin:
                origin[goal] = (waiting[at], sign)
                waiting.append(goal)
        at += 1
    return None
