"""Strides of guessers: steps without a sign, any number of them, and the step of a sign behind them.

They show where a row has two ways, and what makes the number of ways grow without a bound.
"""

from rowreaders.checks import ALPHABET
from rowreaders.crowds import crowd_of, first_row, going_round, spread, stands_of, turned_links, union
from rowreaders.ways import Links, all_stands, useful_stands


class Strides:
    """For each sign and stand the crowd to which strides lead, and the one to which two at least do.

    From the stands that are last, steps without a sign lead to a goal, from those that are last twice on two
    ways at least.
    """

    def __init__(self, links):
        self.many = len(links.empty)
        self.first = links.first
        counts = empty_counts(links.empty)
        sums = [[sums_of(counts[stand], signed) for stand in range(self.many)] for signed in links.signed]
        self.leading = [[from_on(row, 1) for row in table] for table in sums]
        self.twice = [[from_on(row, 2) for row in table] for table in sums]
        ends = [sum([counts[stand][goal] for goal in stands_of(links.last)]) for stand in range(self.many)]
        self.last = from_on(ends, 1)
        self.last_twice = from_on(ends, 2)


def empty_counts(empty):
    """For each two stands on how many ways steps without a sign lead from the one to the other, 2 at most."""
    many = len(empty)
    counts = [[0] * many for _ in range(many)]
    found = [[1 if stand == goal else 0 for goal in range(many)] for stand in range(many)]
    while found != counts:
        counts = found
        found = []
        for stand in range(many):
            row = [1 if stand == goal else 0 for goal in range(many)]
            for middle in stands_of(empty[stand]):
                row = [min(2, row[goal] + counts[middle][goal]) for goal in range(many)]
            found.append(row)
    return counts


def sums_of(counts, signed):
    """For each stand how many strides of a sign lead to it, by the counts of the steps ahead of the sign."""
    sums = [0] * len(counts)
    for middle in range(len(counts)):
        for goal in stands_of(signed[middle]):
            sums[goal] += counts[middle]
    return sums


def from_on(numbers, least):
    """The crowd of the stands that have so great a number at least."""
    return crowd_of([stand for stand in range(len(numbers)) if numbers[stand] >= least])


def first_row_twice(guesser):
    """The first row that has two ways at least, or None.

    Two ways are followed side by side. As long as they are one way this is told by their stand, and as soon
    as they are not by a number for both stands.
    """
    strides = Strides(Links(guesser, all_stands(guesser)))
    many = strides.many
    alike = [[alike_moved(strides, sign, stand) for stand in range(many)] for sign in range(guesser.signs)]
    apart = [[apart_moved(strides.leading[sign], many, one, two) for one in range(many) for two in range(many)]
             for sign in range(guesser.signs)]
    links = [alike[sign] + apart[sign] for sign in range(guesser.signs)]
    begins = stands_of(strides.first)
    ends = stands_of(strides.last)
    first = strides.first | crowd_of([pair(many, one, two) for one in begins for two in begins if one != two])
    last = strides.last_twice | crowd_of([pair(many, one, two) for one in ends for two in ends])
    return first_row(guesser.signs, lambda crowd, sign: union(links[sign], crowd), first, last)


def pair(many, one, two):
    """The number of two ways that are not the same, and their stands."""
    return many + one * many + two


def alike_moved(strides, sign, stand):
    """Where two ways that are the same up to a stand are led."""
    goals = stands_of(strides.leading[sign][stand])
    twice = stands_of(strides.twice[sign][stand])
    pairs = [pair(strides.many, one, two) for one in goals for two in goals if one != two]
    return crowd_of(goals + pairs + [pair(strides.many, one, one) for one in twice])


def apart_moved(lead, many, one, two):
    """Where two ways that are not the same are led from their stands."""
    return crowd_of([pair(many, goal, other) for goal in stands_of(lead[one]) for other in stands_of(lead[two])])


def growing_rows(guesser):
    """Three rows: with the middle one again and again the number of ways grows; None if it is bounded."""
    links = Links(guesser, useful_stands(guesser))
    rounds = going_round(links.empty)
    if rounds:
        return rows_by_round(guesser.signs, links, rounds & -rounds)
    strides = Strides(links)
    found = doubling_rows(guesser.signs, strides) + splitting_rows(guesser.signs, strides)
    if not found:
        return None
    _, middle, begin, end = min(found)
    front = row_of_strides(guesser.signs, strides, strides.first, 1 << begin)
    return front, middle, row_of_strides(guesser.signs, strides, 1 << end, strides.last)


def rows_by_round(signs, links, stand):
    """The rows to and from a stand where steps without a sign go round."""
    def moved(crowd, sign):
        return links.moved(crowd, sign)
    front = first_row(signs, moved, spread(links.empty, links.first), stand)
    return front, "", first_row(signs, moved, spread(links.empty, stand), links.last)


def row_of_strides(signs, strides, begins, goals):
    """The first row whose strides lead from one of the begins to one of the goals, or None."""
    return first_row(signs, lambda crowd, sign: union(strides.leading[sign], crowd), begins, goals)


def any_strides(strides):
    """For each stand the crowd to which strides of any sign lead."""
    links = [0] * strides.many
    for lead in strides.leading:
        links = [links[stand] | lead[stand] for stand in range(strides.many)]
    return links


def stands_between(strides):
    """The stands, ascending, that strides come to from a begin, and from which they come to the last ones."""
    links = any_strides(strides)
    return stands_of(spread(links, strides.first) & spread(turned_links(links), strides.last))


def doubling_rows(signs, strides):
    """Tuples (length, row, stand, stand) of rows that lead from a stand to itself on two ways at least."""
    found = []
    for stand in stands_between(strides):
        for sign in range(signs):
            for goal in stands_of(strides.twice[sign][stand]):
                row = row_of_strides(signs, strides, 1 << goal, 1 << stand)
                if row is not None:
                    found.append((len(row) + 1, ALPHABET[sign] + row, stand, stand))
    return found


def splitting_rows(signs, strides):
    """Tuples (length, row, one, two) of rows that lead one stand to itself and to two, and two to itself."""
    found = []
    links = any_strides(strides)
    onward = [spread(links, links[stand]) for stand in range(strides.many)]
    triples = Triples(strides)
    stands = stands_between(strides)
    for one in stands:
        for two in stands:
            if one != two and onward[one] >> one & onward[one] >> two & onward[two] >> two & 1:
                row = triples.row_between(signs, one, two)
                if row is not None:
                    found.append((len(row), row, one, two))
    return found


class Triples:
    """Three stands side by side, each triple with a number; what strides do to them is kept when it is known."""

    def __init__(self, strides):
        self.strides = strides
        self.known = {}

    def row_between(self, signs, one, two):
        """The first row that leads one to itself, one to two and two to itself, or None."""
        def moved(crowd, sign):
            goals = 0
            for triple in stands_of(crowd):
                goals |= self.goals_of(triple, sign)
            return goals
        return first_row(signs, moved, 1 << self.number(one, one, two), 1 << self.number(one, two, two))

    def number(self, one, two, three):
        """The number of a triple."""
        many = self.strides.many
        return (one * many + two) * many + three

    def goals_of(self, triple, sign):
        """The crowd of triples to which a sign leads a triple."""
        if (triple, sign) not in self.known:
            many = self.strides.many
            lead = self.strides.leading[sign]
            rest = lead[triple % many]
            goals = 0
            for one in stands_of(lead[triple // many // many]):
                for two in stands_of(lead[triple // many % many]):
                    goals |= rest << self.number(one, two, 0)
            self.known[triple, sign] = goals
        return self.known[triple, sign]
