"""Whether what a full reader of two signs says of numbers goes round at last, and how.

A stand tells a lot of numbers: those whose rows, put behind one that came to it, make a yes row. Stands that
rows of any length come to are called late. If the reader goes round at last, the lot of a late stand goes round
from 1 on, with an odd period, and only 0 may be told otherwise; so late stands that agree from 1 on are of one
kind. Then both signs lead unlike kinds to unlike ones, and each kind has another one with all its numbers less
by one. Where this is so for all kinds, and it can be seen by 1 and 2, all lots go round.
"""

from math import lcm

from rowreaders.crowds import crowd_of, going_round
from rowreaders.minimal import longest_ways, reached


class Late:
    """The late stands of full least arrows, and to what the signs lead their kinds."""

    def __init__(self, arrows, ends):
        self.leads = arrows
        self.is_end = [stand in ends for stand in range(len(arrows))]
        rounds = going_round([crowd_of(goals) for goals in arrows])
        self.is_late = reached(arrows, [stand for stand in range(len(arrows)) if rounds >> stand & 1])
        self.kind = kinds_from_one(arrows)
        self.some = {self.kind[stand]: stand for stand in range(len(arrows)) if self.is_late[stand]}
        self.by_a = {kind: self.kind[arrows[self.some[kind]][0]] for kind in self.some}
        self.by_b = {kind: self.kind[arrows[self.some[kind]][1]] for kind in self.some}

    def less_by_one(self):
        """For each kind the one with all its numbers, from 1 on, less by one; None if the reader never goes round."""
        back = turned_round(self.by_a)
        if back is None or turned_round(self.by_b) is None:
            return None
        # Twice a number and one more is one more than twice the number.
        less = {kind: back[self.by_b[kind]] for kind in self.some}
        for kind in less:
            if self.by_b[less[kind]] != less[self.by_a[kind]] or self.has_two(kind) != self.has_one(less[kind]):
                return None
        return less

    def has_one(self, kind):
        """Whether 1 is in the lots of a kind."""
        return self.is_end[self.leads[self.some[kind]][1]]

    def has_two(self, kind):
        """Whether 2 is in the lots of a kind."""
        return self.is_end[self.leads[self.leads[self.some[kind]][0]][1]]

    def others_first(self):
        """The stands that are not late, each behind those to which it leads."""
        others = [stand for stand in range(len(self.leads)) if not self.is_late[stand]]
        number = {others[at]: at for at in range(len(others))}
        ways = longest_ways([[number[goal] for goal in self.leads[stand] if goal in number] for stand in others])
        return sorted(others, key=lambda stand: ways[number[stand]])


def kinds_from_one(arrows):
    """For each stand a number that is equal for stands that agree from 1 on, that is, along rows with a b."""
    kind = [0] * len(arrows)
    many = 0
    while len(set(kind)) > many:
        many = len(set(kind))
        number = {}
        for goals in arrows:
            number.setdefault((goals[1], kind[goals[0]]), len(number))
        kind = [number[goals[1], kind[goals[0]]] for goals in arrows]
    return kind


def turned_round(links):
    """The links of a dict the other way round; None if two lead to one."""
    back = {links[kind]: kind for kind in links}
    return back if len(back) == len(links) else None


def round_at_last(arrows, ends):
    """The pair (p, m) of the least period and the least number from which on it holds, or None."""
    late = Late(arrows, ends)
    less = late.less_by_one()
    if less is None:
        return None
    period = lcm_of(round_lengths(less)) << figures_ahead(late)
    last = last_exception(late, turned_round(less))
    return period, 0 if last is None else last + 1


def lcm_of(numbers):
    """The least number, 1 at least, that all of these divide."""
    least = 1
    for number in numbers:
        least = lcm(least, number)
    return least


def round_lengths(links):
    """The lengths of all rounds along the links of a dict, none of which leave a round."""
    lengths = []
    met = {}
    for begin in links:
        length = 0
        while begin not in met:
            met[begin] = True
            begin = links[begin]
            length += 1
        if length:
            lengths.append(length)
    return lengths


def figures_ahead(late):
    """How many figures there are ahead of those that go round with an odd period.

    A stand that is not late goes round so, too, if there is a kind with its lot but for some numbers.
    """
    back = turned_round(late.by_a)
    kind_of = {stand: late.kind[stand] for stand in range(len(late.leads)) if late.is_late[stand]}
    for stand in late.others_first():
        first, second = [kind_of[goal] for goal in late.leads[stand]]
        kind = None if first is None else back[first]
        kind_of[stand] = kind if kind is not None and late.by_b[kind] == second else None
    stands = [0]
    figures = 0
    while any([kind_of[stand] is None for stand in stands]):
        stands = sorted({goal for stand in stands for goal in late.leads[stand]})
        figures += 1
    return figures


def last_exception(late, more):
    """The last number that is told otherwise than by going round, or None; more has the kinds more by one."""
    last = {}
    for stand in range(len(late.leads)):
        if late.is_late[stand]:
            last[stand] = None if late.is_end[stand] == late.has_one(more[late.kind[stand]]) else 0
    for stand in late.others_first():
        found = [2 * last[late.leads[stand][sign]] + sign for sign in (0, 1)
                 if last[late.leads[stand][sign]] is not None]
        last[stand] = max(found, default=None)
    return last[0]
