"""Whether readers say the same, the rows that tell it if they do not, and least readers."""

from rowreaders.checks import ALPHABET
from rowreaders.minimal import full_parts
from rowreaders.readers import check_pair, check_reader, check_stand, end_flags, least_of
from rowreaders.seeking import first_row_to


def goal_of(reader, stand, sign):
    """Where the arrow leads; from nowhere all lead nowhere."""
    return None if stand is None else reader.arrows[stand][sign]


def goals_of_pair(reader, other, pair):
    """What the signs lead a pair to, of a stand of each, or nowhere."""
    one, two = pair
    return [(goal_of(reader, one, sign), goal_of(other, two, sign)) for sign in range(reader.signs)]


def flags_at_pair(here, there, pair):
    """The flags of a pair of stands, none of which nowhere has."""
    one, two = pair
    return one is not None and here[one], two is not None and there[two]


def first_with(reader, other, begin, wanted):
    """The first row from a pair of stands to one that is wanted, as told of both being ends; or None."""
    here, there = end_flags(reader), end_flags(other)

    def step(pair, sign):
        return goal_of(reader, pair[0], sign), goal_of(other, pair[1], sign)

    return first_row_to(reader.signs, begin, step, lambda pair: flags_at_pair(here, there, pair) in wanted)


def same_rows(reader, other):
    """Whether both say the same."""
    check_pair(reader, other)
    return first_apart(reader, other) is None


def first_apart(reader, other):
    """The first row that is a yes row of one of them alone, or None."""
    check_pair(reader, other)
    return first_with(reader, other, (0, 0), ((True, False), (False, True)))


def is_within(inner, outer):
    """Whether each yes row of the one is one of the other."""
    check_pair(inner, outer)
    return first_outside(inner, outer) is None


def first_outside(inner, outer):
    """The first yes row of the one that is none of the other, or None."""
    check_pair(inner, outer)
    return first_with(inner, outer, (0, 0), ((True, False),))


def least(reader):
    """The least reader."""
    check_reader(reader)
    return least_of(reader.signs, reader.arrows, reader.ends)


def full_least(reader):
    """The arrows and ends of the least full reader that says the same; it may have one stand too many."""
    made = least(reader)
    return full_parts(made.signs, made.arrows, made.ends)


def first_rows(reader):
    """The first rows of the stands of the least reader."""
    return tuple(first_fronts(least(reader).arrows))


def first_fronts(arrows):
    """The first rows that lead to the stands; these are numbered by them, but for the last one."""
    rows = {0: ""}
    for stand in range(len(arrows)):
        for sign in range(len(arrows[stand])):
            goal = arrows[stand][sign]
            if goal is not None and goal not in rows:
                rows[goal] = rows[stand] + ALPHABET[sign]
    return [rows[stand] for stand in range(len(arrows))]


def parting(reader, one, other):
    """The first row that parts two stands of the reader as it is, or None."""
    check_reader(reader)
    check_stand(reader, one)
    check_stand(reader, other)
    return first_with(reader, reader, (one, other), ((True, False), (False, True)))
