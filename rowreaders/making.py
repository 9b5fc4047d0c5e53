"""Readers made of readers, each the least one of the rows that its words tell."""

from rowreaders.checks import ALPHABET, check_row, is_lot
from rowreaders.errors import InvalidSigns
from rowreaders.likeness import flags_at_pair, goals_of_pair, least
from rowreaders.minimal import other_parts, stands_met
from rowreaders.guessing import least_of_net
from rowreaders.readers import check_pair, check_reader, end_flags, led_from, least_of, no_rows, useful
from rowreaders.seeking import explored


def both(reader, other):
    """The yes rows of both."""
    check_pair(reader, other)
    return paired(reader, other, ((True, True),))


def either(reader, other):
    """The yes rows of one of them at least."""
    check_pair(reader, other)
    return paired(reader, other, ((True, True), (True, False), (False, True)))


def one_alone(reader, other):
    """The yes rows of just one of them."""
    check_pair(reader, other)
    return paired(reader, other, ((True, False), (False, True)))


def other_rows(reader):
    """All rows of its signs that are no yes rows."""
    check_reader(reader)
    arrows, ends = other_parts(reader.signs, reader.arrows, reader.ends)
    return least_of(reader.signs, arrows, ends)


def paired(reader, other, wanted):
    """The reader of the rows for which being a yes row of the one, and of the other one, is wanted so."""
    reader, other = least(reader), least(other)
    here, there = end_flags(reader), end_flags(other)
    pairs, arrows = explored((0, 0), lambda pair: goals_of_pair(reader, other, pair))
    ends = [at for at in range(len(pairs)) if flags_at_pair(here, there, pairs[at]) in wanted]
    return least_of(reader.signs, arrows, ends)


def arrows_of(reader, ahead=0):
    """For each sign the pairs of stands between which its arrows lead, with so many stands ahead of them."""
    return [[(stand + ahead, reader.arrows[stand][sign] + ahead) for stand in range(len(reader))
             if reader.arrows[stand][sign] is not None] for sign in range(reader.signs)]


def behind(reader, other):
    """All rows that are a yes row of the one, then one of the other."""
    check_pair(reader, other)
    size = len(reader)
    flags = end_flags(reader)
    first, second = arrows_of(reader), arrows_of(other, size)
    # Whoever comes to an end of the one stands at the beginning of the other, too.
    links = [[(stand, size) for stand, goal in pairs if flags[goal]] for pairs in first]
    arrows = [first[sign] + links[sign] + second[sign] for sign in range(reader.signs)]
    begins = [0, size] if flags[0] else [0]
    return least_of_net(reader.signs, size + len(other), arrows, begins, [size + end for end in other.ends])


def again(reader):
    """All rows of yes rows one behind the other, any number, also none."""
    check_reader(reader)
    size = len(reader)
    flags = end_flags(reader)
    arrows = []
    for pairs in arrows_of(reader):
        # One stand more, a begin that is a goal; whoever comes to an end stands there, too.
        all_pairs = pairs + [(size, goal) for stand, goal in pairs if stand == 0]
        arrows.append(all_pairs + [(stand, size) for stand, goal in all_pairs if flags[goal]])
    return least_of_net(reader.signs, size + 1, arrows, [size], [size])


def shuffled(reader, other):
    """All rows that are shuffled of a yes row of each."""
    check_pair(reader, other)
    reader, other = least(reader), least(other)
    many = len(other)
    arrows = []
    first, second = arrows_of(reader), arrows_of(other)
    for sign in range(reader.signs):
        pairs = [(stand * many + at, goal * many + at) for stand, goal in first[sign] for at in range(many)]
        arrows.append(pairs + [(at * many + stand, at * many + goal)
                               for stand, goal in second[sign] for at in range(len(reader))])
    goals = [one * many + two for one in reader.ends for two in other.ends]
    return least_of_net(reader.signs, len(reader) * many, arrows, [0], goals)


def mirrored(reader):
    """The yes rows from behind."""
    check_reader(reader)
    arrows = [[(goal, stand) for stand, goal in pairs] for pairs in arrows_of(reader)]
    return least_of_net(reader.signs, len(reader), arrows, list(reader.ends), [0])


def fronts(reader):
    """All beginnings of yes rows."""
    check_reader(reader)
    return least_of(reader.signs, reader.arrows, useful(reader))


def tails(reader):
    """All ends of yes rows."""
    check_reader(reader)
    return least_of_net(reader.signs, len(reader), arrows_of(reader), useful(reader), reader.ends)


def pieces(reader):
    """All rows of signs side by side in yes rows."""
    return tails(fronts(reader))


def strewn_pieces(reader):
    """All that is left of yes rows if any signs, or none, are left out."""
    check_reader(reader)
    return with_leaps(fronts(reader), list(range(reader.signs)), list(range(reader.signs)))


def with_leaps(reader, kept, leapt):
    """The reader of what is left of yes rows: some signs may be read, some may be leapt over."""
    links = [[goals[sign] for sign in leapt if goals[sign] is not None] for goals in reader.arrows]
    far = [stands_met(links, stand) for stand in range(len(reader))]
    arrows = [[] for _ in range(reader.signs)]
    for sign in kept:
        for stand in range(len(reader)):
            goal = reader.arrows[stand][sign]
            if goal is not None:
                arrows[sign] += [(stand, other) for other in far[goal]]
    return least_of_net(reader.signs, len(reader), arrows, far[0], reader.ends)


def rests_behind(reader, row):
    """All rows that make a yes row if put behind this row."""
    check_reader(reader)
    check_row(reader.signs, row)
    begin = led_from(reader, 0, row)
    if begin is None:
        return no_rows(reader.signs)
    # Stand 0 and the stand where the row leads change their places.
    place = {0: begin, begin: 0}
    order = [place.get(stand, stand) for stand in range(len(reader))]
    arrows = [[None if goal is None else order[goal] for goal in reader.arrows[stand]] for stand in order]
    return least_of(reader.signs, arrows, [order[end] for end in reader.ends])


def rests_ahead(reader, row):
    """All rows that make a yes row if put ahead of this row."""
    check_reader(reader)
    check_row(reader.signs, row)
    ends = [stand for stand in range(len(reader)) if led_from(reader, stand, row) in reader.ends]
    return least_of(reader.signs, reader.arrows, ends)


def renamed(reader, order):
    """The yes rows, each sign exchanged for the one that stands in order where it stands in the alphabet."""
    check_reader(reader)
    signs = ALPHABET[:reader.signs]
    if not isinstance(order, str) or sorted(order) != list(signs):
        raise InvalidSigns(order)
    arrows = [[goals[order.index(sign)] for sign in signs] for goals in reader.arrows]
    return least_of(reader.signs, arrows, reader.ends)


def struck(reader, signs):
    """What is left of each yes row when all these signs are struck out of it."""
    check_reader(reader)
    if not is_lot(signs, reader.signs):
        raise InvalidSigns(signs)
    leapt = [ALPHABET.index(sign) for sign in signs]
    kept = [sign for sign in range(reader.signs) if sign not in leapt]
    return with_leaps(reader, kept, leapt)
