"""Ways of rows in guessers: how many there are, and whether this number grows without a bound."""

from rowreaders.checks import ALPHABET
from rowreaders.crowds import crowd_of, going_round, spread, stands_of, turned_links, union


class Links:
    """The steps of a guesser between some of its stands, and these as begins and goals."""

    def __init__(self, guesser, among):
        self.many = guesser.size
        self.empty = [0] * guesser.size
        self.signed = [[0] * guesser.size for _ in range(guesser.signs)]
        for stand, sign, goal in guesser.steps:
            if among >> stand & 1 and among >> goal & 1:
                links = self.signed[ALPHABET.index(sign)] if sign else self.empty
                links[stand] |= 1 << goal
        self.first = crowd_of(guesser.begins) & among
        self.last = crowd_of(guesser.goals) & among

    def moved(self, crowd, sign):
        """Where a sign leads a crowd, steps without a sign behind it let."""
        return spread(self.empty, union(self.signed[sign], crowd))


def all_stands(guesser):
    """The crowd of all stands."""
    return (1 << guesser.size) - 1


def useful_stands(guesser):
    """The crowd of the stands that are on some way."""
    links = [0] * guesser.size
    for stand, _, goal in guesser.steps:
        links[stand] |= 1 << goal
    fore = spread(links, crowd_of(guesser.begins))
    return fore & spread(turned_links(links), crowd_of(guesser.goals))


def crowds_along(links, row):
    """The crowds to which a row leads, ahead of it and behind each of its signs."""
    crowds = [spread(links.empty, links.first)]
    for sign in row:
        crowds.append(links.moved(crowds[-1], ALPHABET.index(sign)))
    return crowds


def crowds_left(links, row):
    """The crowds from which the rest of a row leads to a goal, ahead of it and behind each of its signs."""
    empty = turned_links(links.empty)
    crowds = [spread(empty, links.last)]
    for sign in row[::-1]:
        signed = turned_links(links.signed[ALPHABET.index(sign)])
        crowds.append(spread(empty, union(signed, crowds[-1])))
    return crowds[::-1]


def number_of_ways(guesser, row):
    """How many ways a row has; None if there are more than any number."""
    links = Links(guesser, all_stands(guesser))
    rounds = going_round(links.empty)
    fore, rest = crowds_along(links, row), crowds_left(links, row)
    if any([fore[at] & rest[at] & rounds for at in range(len(fore))]):
        return None
    # No way of the row meets a stand on a round, so all of them are left without these stands.
    links = Links(guesser, all_stands(guesser) & ~rounds)
    numbers = with_empty(links, [links.first >> stand & 1 for stand in range(links.many)])
    for sign in row:
        numbers = with_empty(links, passed_on(links.signed[ALPHABET.index(sign)], numbers))
    return sum([numbers[stand] for stand in stands_of(links.last)])


def passed_on(links, numbers):
    """Numbers of ways to each stand, led on along one link more."""
    sums = [0] * len(numbers)
    for stand in range(len(numbers)):
        for goal in stands_of(links[stand]):
            sums[goal] += numbers[stand]
    return sums


def with_empty(links, numbers):
    """Numbers of ways to each stand, led on along any steps without a sign, which do not go round here."""
    sums = list(numbers)
    while any(numbers):
        numbers = passed_on(links.empty, numbers)
        sums = [sums[stand] + numbers[stand] for stand in range(len(sums))]
    return sums
