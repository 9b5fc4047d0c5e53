"""Duels: two write a row by turns, and one of them can have its way.

Whose turn it is stands beside the stand: a pair of lists has something for each stand when it is the first
one's turn, and for each stand when it is the second one's.
"""

from rowreaders.checks import ALPHABET, check_length, is_lot
from rowreaders.errors import InvalidPlan, InvalidSigns
from rowreaders.minimal import links_back, links_of, reached
from rowreaders.readers import check_reader, end_flags


def check_duel(reader, first, second):
    """Let only a reader and two lots of its signs pass."""
    check_reader(reader)
    for lot in (first, second):
        if not is_lot(lot, reader.signs) or not lot:
            raise InvalidSigns(lot)


def goals_by(reader, lot):
    """For each stand what the signs of a lot lead to."""
    signs = [ALPHABET.index(sign) for sign in lot]
    return [[goals[sign] for sign in signs] for goals in reader.arrows]


def has_some(flags, goals):
    """Whether one of these goals at least is a stand that has the flag."""
    return any([goal is not None and flags[goal] for goal in goals])


def has_all(flags, goals):
    """Whether all of these goals are stands that have the flag."""
    return all([goal is not None and flags[goal] for goal in goals])


def can_write(reader, first, second, length):
    """Whether the first one can bring it about that the row of this length is a yes row."""
    check_duel(reader, first, second)
    check_length(length)
    mine, others = goals_by(reader, first), goals_by(reader, second)
    flags = end_flags(reader)
    for turn in range(length - 1, -1, -1):
        if turn & 1:
            flags = [has_all(flags, goals) for goals in others]
        else:
            flags = [has_some(flags, goals) for goals in mine]
    return flags[0]


def signs_left(reader, mine, others, choose):
    """The pair of how many signs it takes at most, from each stand, until the row is a yes row, or None.

    mine and others have what the signs that can be written lead to. choose is has_some if the first one
    brings it about as soon as it can, has_all if it may do whatever it can.
    """
    here = [0 if end else None for end in end_flags(reader)]
    there = list(here)
    count = 0
    found = True
    while found:
        count += 1
        known_here = [left is not None for left in here]
        known_there = [left is not None for left in there]
        new_here = [at for at in range(len(here)) if here[at] is None and choose(known_there, mine[at])]
        new_there = [at for at in range(len(there)) if there[at] is None and has_all(known_here, others[at])]
        for stand in new_here:
            here[stand] = count
        for stand in new_there:
            there[stand] = count
        found = len(new_here) + len(new_there) > 0
    return here, there


def least_left(reader, first, second):
    """The pair of how many signs it takes, from each stand, if the first one writes as well as it can."""
    return signs_left(reader, goals_by(reader, first), goals_by(reader, second), has_some)


def least_turns(reader, first, second):
    """The least number of signs with which the first one can make the row a yes row, or None."""
    check_duel(reader, first, second)
    return least_left(reader, first, second)[0][0]


def winning(reader, first, second):
    """The stands from which the first one can make the row a yes row, with its turn, with the second one's."""
    check_duel(reader, first, second)
    here, there = least_left(reader, first, second)
    return stands_with(here), stands_with(there)


def stands_with(left):
    """The ascending tuple of the stands that have a number."""
    return tuple([stand for stand in range(len(left)) if left[stand] is not None])


def can_keep(reader, first, second):
    """Whether the first one can bring it about that the row is always a front of some yes row."""
    check_duel(reader, first, second)
    mine, others = goals_by(reader, first), goals_by(reader, second)
    here = reached(links_back(links_of(reader.arrows)), reader.ends)
    there = list(here)
    kept = 2 * len(reader) + 1
    while sum(here) + sum(there) < kept:
        kept = sum(here) + sum(there)
        new_here = [here[at] and has_some(there, mine[at]) for at in range(len(here))]
        there = [there[at] and has_all(here, others[at]) for at in range(len(there))]
        here = new_here
    return here[0]


def plan(reader, first, second):
    """Any plan of the first one by which the row becomes a yes row within the least turns, or None."""
    check_duel(reader, first, second)
    here, there = least_left(reader, first, second)
    if here[0] is None:
        return None
    signs = []
    for stand in range(len(reader)):
        goals = reader.arrows[stand]
        fit = [sign for sign in first if here[stand]
               and leaves(there, goals[ALPHABET.index(sign)], here[stand] - 1)]
        signs.append(fit[0] if fit else None)
    return tuple(signs)


def leaves(left, goal, most):
    """Whether from this goal so many signs at most are left."""
    return goal is not None and left[goal] is not None and left[goal] <= most


def barring(reader, first, second):
    """Any plan of the second one by which the row never becomes a yes row, or None."""
    check_duel(reader, first, second)
    here, there = least_left(reader, first, second)
    if here[0] is not None:
        return None
    signs = []
    for stand in range(len(reader)):
        goals = reader.arrows[stand]
        fit = [sign for sign in second if there[stand] is None and bars(here, goals[ALPHABET.index(sign)])]
        signs.append(fit[0] if fit else None)
    return tuple(signs)


def bars(left, goal):
    """Whether the first one cannot have its way any more."""
    return goal is None or left[goal] is None


def turns_of(reader, first, second, plan):
    """The greatest number of signs that the first one needs by its plan; None if it may need endlessly many."""
    check_duel(reader, first, second)
    if not is_plan(plan, len(reader), first):
        raise InvalidPlan(plan)
    return signs_left(reader, goals_by_plan(reader, first, plan), goals_by(reader, second), has_all)[0][0]


def goals_by_plan(reader, lot, plan):
    """For each stand what the signs of a lot lead to that a plan lets be written there."""
    every = goals_by(reader, lot)
    return [every[at] if plan[at] is None else [every[at][lot.index(plan[at])]] for at in range(len(reader))]


def is_plan(value, size, lot):
    """Whether a value has a sign of the lot or None for each stand."""
    if not isinstance(value, tuple) or len(value) != size:
        return False
    return all([sign is None or isinstance(sign, str) and len(sign) == 1 and sign in lot for sign in value])
