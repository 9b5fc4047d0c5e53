"""Formulas: what they are, and the readers of the numbers that fulfil them.

A formula of many numbers has a reader with a track for each of them, so that the bit of a sign's number at a
place is the figure on this track. The a's behind a row change no number, and so never change what a reader says.
"""

from rowreaders.checks import is_between
from rowreaders.guessing import net_parts
from rowreaders.limits import MOST_STANDS
from rowreaders.making import both, either, other_rows
from rowreaders.minimal import links_back, other_parts, reached
from rowreaders.nets import trimmed
from rowreaders.readers import Reader, all_rows, end_flags, first_yes, least_of

MOST_DEEP = 5
MOST_TRACKS = 3
MOST_FACTOR = 9
MOST_SUM = 99
MOST_WITHIN = 12


def is_formula(value, many, deep=MOST_DEEP):
    """Whether a value is a formula of so many numbers that is at most so deep."""
    if not isinstance(value, tuple) or not value or not isinstance(value[0], str):
        return False
    word, parts = value[0], value[1:]
    if word == "sum":
        return len(parts) == 3 and is_sum(parts, many)
    if word == "in":
        return len(parts) == 2 and is_between(parts[0], 0, many - 1) and is_reader_within(parts[1])
    if word in ("some", "all"):
        many += 1
    sizes = {"not": 1, "and": 2, "or": 2, "some": 1, "all": 1}
    if len(parts) != sizes.get(word) or deep == 1 or many > MOST_TRACKS:
        return False
    return all([is_formula(part, many, deep - 1) for part in parts])


def is_sum(parts, many):
    """Whether these are factors of so many numbers, how to compare, and a sum."""
    factors, sign, total = parts
    if not isinstance(factors, tuple) or len(factors) != many:
        return False
    if not all([is_between(factor, -MOST_FACTOR, MOST_FACTOR) for factor in factors]):
        return False
    return isinstance(sign, str) and sign in ("=", "<=") and is_between(total, -MOST_SUM, MOST_SUM)


def is_reader_within(value):
    """Whether a value is a reader that may stand in a formula."""
    return isinstance(value, Reader) and value.signs == 2 and len(value) <= MOST_WITHIN


def is_so(formula):
    """Whether a formula of no numbers is fulfilled."""
    word = formula[0]
    if word == "sum":
        return formula[3] == 0 if formula[2] == "=" else formula[3] >= 0
    if word == "not":
        return not is_so(formula[1])
    if word in ("and", "or"):
        # Both are looked at in any case, as one alone may have too many stands.
        one, other = is_so(formula[1]), is_so(formula[2])
        return one and other if word == "and" else one or other
    made = formula_reader(1, formula[1])
    if word == "some":
        return first_yes(made) is not None
    return made == all_rows(2)


def formula_reader(many, formula):
    """The least reader of all rows of numbers, one at least, that fulfil a formula."""
    word = formula[0]
    if word == "sum":
        return sum_reader(many, formula[1], formula[2] == "=", formula[3])
    if word == "in":
        return within_reader(many, formula[1], formula[2])
    if word == "not":
        return other_rows(formula_reader(many, formula[1]))
    if word == "and":
        return both(formula_reader(many, formula[1]), formula_reader(many, formula[2]))
    if word == "or":
        return either(formula_reader(many, formula[1]), formula_reader(many, formula[2]))
    made = formula_reader(many + 1, formula[1])
    if word == "some":
        arrows, ends = some_parts(many, made.arrows, made.ends, MOST_STANDS)
    else:
        arrows, ends = all_parts(many, made)
    return least_of(1 << many, arrows, ends)


def figure(sign, track):
    """The figure of a sign on a track."""
    return sign >> track & 1


def sum_reader(many, factors, exactly, total):
    """The reader of all numbers of which the sum, each times its factor, is the total, or is at most this.

    The stands are the totals that are left for the figures to come, which count half as much.
    """
    signs = 1 << many
    steps = [sum([factors[track] for track in range(many) if figure(sign, track)]) for sign in range(signs)]
    totals = [total]
    number = {total: 0}
    arrows = []
    while len(arrows) < len(totals):
        goals = []
        for step in steps:
            left = totals[len(arrows)] - step
            if exactly and left & 1:
                goals.append(None)
                continue
            if left >> 1 not in number:
                number[left >> 1] = len(totals)
                totals.append(left >> 1)
            goals.append(number[left >> 1])
        arrows.append(goals)
    ends = [at for at in range(len(totals)) if (totals[at] == 0 if exactly else totals[at] >= 0)]
    return least_of(signs, arrows, ends)


def within_reader(many, track, reader):
    """The reader of all numbers of which the one on a track has a shortest row that is a yes row of the reader.

    The stands are those of the reader, or nowhere, beside whether the row up to the last b was a yes row.
    """
    flags = end_flags(reader)
    nowhere = len(reader)
    stands = [(0, flags[0])]
    number = {stands[0]: 0}
    arrows = []
    while len(arrows) < len(stands):
        stand, is_yes = stands[len(arrows)]
        goals = []
        for at in (0, 1):
            goal = None if stand == nowhere else reader.arrows[stand][at]
            goal = nowhere if goal is None else goal
            pair = (goal, is_yes if at == 0 else goal != nowhere and flags[goal])
            if pair not in number:
                number[pair] = len(stands)
                stands.append(pair)
            goals.append(number[pair])
        arrows.append([goals[figure(sign, track)] for sign in range(1 << many)])
    return least_of(1 << many, arrows, [at for at in range(len(stands)) if stands[at][1]])


def some_parts(many, arrows, ends, most):
    """The least arrows and ends of all numbers behind which some number more, put last, makes a yes row.

    The number that is put last may have more figures than all others, and so be behind their row.
    """
    signs = 1 << many
    pairs = [[] for _ in range(signs)]
    behind = [[] for _ in arrows]
    for stand in range(len(arrows)):
        for sign in range(2 * signs):
            goal = arrows[stand][sign]
            # What the sign has on the tracks but the last one; 0 if it may stand behind the row of the others.
            others = sign % signs
            if goal is not None:
                pairs[others].append((stand, goal))
            if goal is not None and others == 0:
                behind[stand].append(goal)
    met = reached(links_back(behind), ends)
    goals = [stand for stand in range(len(arrows)) if met[stand]]
    return net_parts(signs, trimmed(len(arrows), pairs, [0], goals), len(arrows), most)


def all_parts(many, reader):
    """Arrows and ends of all numbers behind which each number more, put last, makes a yes row of the reader.

    These are all others but those behind which some number makes no yes row, of which the least reader may
    have one stand more.
    """
    arrows, ends = other_parts(2 << many, reader.arrows, reader.ends)
    arrows, ends = some_parts(many, arrows, ends, MOST_STANDS + 1)
    return other_parts(1 << many, arrows, ends)
