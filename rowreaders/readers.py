"""Readers: rows go along their arrows, and are yes rows if they come to an end."""

from rowreaders.checks import ALPHABET, check_row, check_signs, is_arrows, is_between, is_row, is_stands
from rowreaders.errors import InvalidArrows, InvalidEnds, InvalidStand, InvalidTold
from rowreaders.errors import NotAReader, TooMany, UnlikeSigns
from rowreaders.limits import MOST_STANDS
from rowreaders.minimal import flags_of, least_parts, nothing, useful_stands

MOST_TOLD = 40
MOST_TOLD_SIGNS = 12


class Reader:
    """Some signs, for each stand the goals of its arrows, and the stands that are ends."""

    def __init__(self, signs, arrows, ends):
        check_signs(signs)
        if not is_arrows(arrows, signs):
            raise InvalidArrows(arrows)
        if not is_stands(ends, len(arrows)):
            raise InvalidEnds(ends)
        self._signs = signs
        self._arrows = arrows
        self._ends = ends

    @property
    def signs(self):
        """How many signs the reader has."""
        return self._signs

    @property
    def arrows(self):
        """For each stand the tuple of what its signs lead to, None for nowhere."""
        return self._arrows

    @property
    def ends(self):
        """The ascending tuple of the stands that are ends."""
        return self._ends

    def __len__(self):
        return len(self._arrows)

    def __repr__(self):
        return f"Reader({self._signs} signs, {len(self._arrows)} stands)"

    def __eq__(self, other):
        return (isinstance(other, Reader) and self._signs == other._signs
                and self._arrows == other._arrows and self._ends == other._ends)


def check_reader(reader):
    """Let only a reader pass."""
    if not isinstance(reader, Reader):
        raise NotAReader(reader)


def check_pair(reader, other):
    """Let only two readers with as many signs pass."""
    check_reader(reader)
    check_reader(other)
    if reader.signs != other.signs:
        raise UnlikeSigns()


def check_stand(reader, stand):
    """Let only a stand of the reader pass."""
    if not is_between(stand, 0, len(reader) - 1):
        raise InvalidStand(stand)


def least_of(signs, arrows, ends):
    """The least reader with the yes rows of these arrows and ends, which may have any number of stands."""
    made, found = least_parts(signs, arrows, ends, MOST_STANDS)
    return Reader(signs, made, found)


def end_flags(reader):
    """For each stand whether it is an end."""
    return flags_of(len(reader), reader.ends)


def led_from(reader, stand, row):
    """The stand to which a row leads from a stand, or None."""
    arrows = reader.arrows
    for sign in row:
        if stand is None:
            return None
        stand = arrows[stand][ALPHABET.index(sign)]
    return stand


def led_to(reader, row):
    """The stand to which the row leads from stand 0, or None."""
    check_reader(reader)
    check_row(reader.signs, row)
    return led_from(reader, 0, row)


def says(reader, row):
    """Whether the row is a yes row."""
    check_reader(reader)
    check_row(reader.signs, row)
    return led_from(reader, 0, row) in reader.ends


def useful(reader):
    """The ascending tuple of the useful stands."""
    check_reader(reader)
    return tuple(useful_stands(reader.arrows, reader.ends))


def first_yes(reader):
    """The first yes row in the order of rows, or None."""
    check_reader(reader)
    rows = {0: ""}
    waiting = [0]
    at = 0
    while at < len(waiting):
        stand = waiting[at]
        if stand in reader.ends:
            return rows[stand]
        for sign in range(reader.signs):
            goal = reader.arrows[stand][sign]
            if goal is not None and goal not in rows:
                rows[goal] = rows[stand] + ALPHABET[sign]
                waiting.append(goal)
        at += 1
    return None


def all_rows(signs):
    """The reader of all rows."""
    check_signs(signs)
    return Reader(signs, ((0,) * signs,), (0,))


def no_rows(signs):
    """The reader of no rows."""
    check_signs(signs)
    arrows, ends = nothing(signs)
    return Reader(signs, arrows, ends)


def only(signs, rows):
    """The reader of some rows alone."""
    check_signs(signs)
    if not is_told(signs, rows):
        raise InvalidTold(rows)
    arrows = [[None] * signs]
    ends = []
    for row in rows:
        stand = 0
        for sign in row:
            at = ALPHABET.index(sign)
            if arrows[stand][at] is None:
                arrows[stand][at] = len(arrows)
                arrows.append([None] * signs)
            stand = arrows[stand][at]
        ends.append(stand)
    return least_of(signs, arrows, ends)


def is_told(signs, rows):
    """Whether these are few short rows of so many signs."""
    if not isinstance(rows, tuple) or len(rows) > MOST_TOLD:
        return False
    return all([is_row(row, signs, MOST_TOLD_SIGNS) for row in rows])


def is_full(reader):
    """Whether no arrow leads nowhere."""
    check_reader(reader)
    return all([None not in goals for goals in reader.arrows])


def filled(reader):
    """The reader, if it is full; otherwise with one stand more to which the missing arrows lead."""
    if is_full(reader):
        return reader
    if len(reader) == MOST_STANDS:
        raise TooMany(MOST_STANDS)
    last = len(reader)
    arrows = [tuple([last if goal is None else goal for goal in goals]) for goals in reader.arrows]
    arrows.append((last,) * reader.signs)
    return Reader(reader.signs, tuple(arrows), reader.ends)
