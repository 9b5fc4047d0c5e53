"""Whether readers say the same, the rows that tell it if they do not, and least readers."""

from rowreaders.checks import ALPHABET
from rowreaders.minimal import full_parts
from rowreaders.readers import check_pair, check_reader, check_stand, end_flags, least_of
from rowreaders.seeking import first_row_to


def goal_of(reader, stand, sign):
    """Where the arrow leads; from nowhere all lead nowhere."""
    return None if stand is None else reader.arrows[stand][sign]


def first_with(reader, other, begin, wanted):
    """The first row from a pair of stands to one that is wanted, as told of both being ends; or None."""
    here, there = end_flags(reader), end_flags(other)

    def step(pair, sign):
        return goal_of(reader, pair[0], sign), goal_of(other, pair[1], sign)

    def is_wanted(pair):
        return (pair[0] is not None and here[pair[0]], pair[1] is not None and there[pair[1]]) in wanted
    return first_row_to(reader.signs, begin, step, is_wanted)


def same_rows(reader, other):
    """Whether both say the same."""
    check_pair(reader, other)
    return first_apart(reader, other) is None


def first_apart(reader, other):
    """The first row that is a yes row of one of them alone, or None."""
    check_pair(reader, other)
    return first_with(reader, other, (0, 0), ((True, False), (False, True)))


def is_within(inner, outer):
    """Whether each yes row of the one is one of the other."""
    check_pair(inner, outer)
    return first_outside(inner, outer) is None


def first_outside(inner, outer):
    """The first yes row of the one that is none of the other, or None."""
    check_pair(inner, outer)
    return first_with(inner, outer, (0, 0), ((True, False),))


def least(reader):
    """The least reader."""
    check_reader(reader)
    return least_of(reader.signs, reader.arrows, reader.ends)


def full_least(reader):
    """The arrows and ends of the least full reader that says the same; it may have one stand too many."""
    made = least(reader)
    return full_parts(made.signs, made.arrows, made.ends)


def first_rows(reader):
    """The first rows of the stands of the least reader."""
    made = least(reader)
    rows = {0: ""}
    for stand in range(len(made)):
        for sign in range(made.signs):
            goal = made.arrows[stand][sign]
            if goal is not None and goal not in rows:
                rows[goal] = rows[stand] + ALPHABET[sign]
    return tuple([rows[stand] for stand in range(len(made))])


def parting(reader, one, other):
    """The first row that parts two stands of the reader as it is, or None."""
    check_reader(reader)
    check_stand(reader, one)
    check_stand(reader, other)
    return first_with(reader, reader, (one, other), ((True, False), (False, True)))
