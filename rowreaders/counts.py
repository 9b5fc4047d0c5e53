"""How many yes rows there are, for all lengths at once: forms, rules, growth and share."""

from math import gcd

from rowreaders.crowds import crowd_of, size_of, spread
from rowreaders.likeness import least
from rowreaders.listing import counts_up_to
from rowreaders.minimal import kept, links_of, useful_stands
from rowreaders.readers import check_reader
from rowreaders.series import ahead, shortest_rule


def series_of(reader):
    """Top, bottom and length of the rule: the numbers of yes rows are top divided by bottom."""
    made = least(reader)
    # The numbers follow a rule as long as there are stands; twice as many numbers leave no other one.
    numbers = [counts[0] for counts in counts_up_to(made, 2 * len(made) - 1)]
    factors, length = shortest_rule(numbers)
    return cut([ahead(numbers, factors, at) for at in range(length)]), cut(factors), length


def cut(numbers):
    """The numbers without 0 at the end."""
    many = len(numbers)
    while many and numbers[many - 1] == 0:
        many -= 1
    return tuple(numbers[:many])


def form_of(reader):
    """The form: the pair (top, bottom)."""
    check_reader(reader)
    top, bottom, _ = series_of(reader)
    return top, bottom


def rule_of(reader):
    """The rule."""
    check_reader(reader)
    _, bottom, length = series_of(reader)
    factors = list(bottom) + [0] * (length + 1 - len(bottom))
    return tuple([-factors[length - at] for at in range(length)])


def growth(reader):
    """The growth: -1 if there are finitely many yes rows, None if no power of the length is enough.

    Each round that the stands go along lets the numbers grow by one power, two rounds in one lot of stands by
    more than any.
    """
    check_reader(reader)
    arrows, _ = kept(reader.arrows, reader.ends, useful_stands(reader.arrows, reader.ends))
    links = links_of(arrows)
    crowds = [crowd_of(goals) for goals in links]
    met = [spread(crowds, crowd) for crowd in crowds]
    on_rounds = [stand for stand in range(len(links)) if met[stand] >> stand & 1]
    for stand in on_rounds:
        if len([goal for goal in links[stand] if met[goal] >> stand & 1]) > 1:
            return None
    rounds = {}
    # From a stand on a round all is met that is met behind it, so fewest stands are met from the last rounds.
    for stand in sorted(on_rounds, key=lambda at: size_of(met[at])):
        others = [rounds[goal] for goal in rounds if met[stand] >> goal & 1 and not met[goal] >> stand & 1]
        rounds[stand] = 1 + max(others, default=0)
    return max(list(rounds.values()), default=0) - 1


def share(reader):
    """The share, as a fraction.

    It is what is left of the form, each power of x divided by that of the signs, times 1 - x, where x is 1.
    """
    check_reader(reader)
    top, bottom, _ = series_of(reader)
    signs = reader.signs
    rest = []
    carried = 0
    for factor in bottom:
        carried = factor + signs * carried
        rest.append(carried)
    # The last one is 0 exactly if bottom has the factor 1 - signs * x, and then the others are what is left.
    if rest.pop():
        return 0, 1
    size = max(len(top), len(rest))
    part, whole = at_share(top, signs, size), at_share(rest, signs, size)
    divisor = gcd(part, whole)
    return (part // divisor, whole // divisor) if whole > 0 else (-part // divisor, -whole // divisor)


def at_share(factors, signs, size):
    """What powers with so many factors come to at 1 divided by signs, so many times multiplied by signs."""
    total = 0
    for at in range(size):
        total = total * signs + (factors[at] if at < len(factors) else 0)
    return total * signs
