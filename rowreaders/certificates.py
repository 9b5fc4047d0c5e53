"""Claims with papers that show them, for the checker."""

from rowreaders.books import first_difference
from rowreaders.delays import longer_delay
from rowreaders.duels import barring, least_turns, plan
from rowreaders.leading import joins, reset_row
from rowreaders.likeness import first_apart, first_outside, first_rows, goals_of_pair, least
from rowreaders.listing import count_of
from rowreaders.minimal import flags_of
from rowreaders.partings import parting_rows
from rowreaders.readers import useful
from rowreaders.seeking import explored


def triple_of(reader):
    """The reader as it stands in claims."""
    return reader.signs, reader.arrows, reader.ends


def pairs_met(reader, other):
    """The pairs of stands, or nowhere, to which rows lead in both readers."""
    pairs, _ = explored((0, 0), lambda pair: goals_of_pair(reader, other, pair))
    return tuple(pairs)


def certify_same(reader, other):
    """That both say the same, or do not, with a paper."""
    row = first_apart(reader, other)
    if row is None:
        return ("same", triple_of(reader), triple_of(other)), pairs_met(reader, other)
    return ("apart", triple_of(reader), triple_of(other)), row


def certify_within(inner, outer):
    """That each yes row of the one is one of the other, or is not, with a paper."""
    row = first_outside(inner, outer)
    if row is None:
        return ("within", triple_of(inner), triple_of(outer)), pairs_met(inner, outer)
    return ("outside", triple_of(inner), triple_of(outer)), row


def certify_least(reader):
    """That the least reader has as few stands as can be, with a paper."""
    made = least(reader)
    rows = parting_rows(made.signs, made.arrows, made.ends)
    size = len(made)
    partings = tuple([rows[one, two] for one in range(size) for two in range(one + 1, size)])
    return ("least", triple_of(made)), (first_rows(made), partings)


def certify_books(reader, book, second):
    """That two books agree on the reader, or do not, with a paper."""
    row = first_difference(reader, book, second)
    if row is None:
        return ("agree", triple_of(reader), book, second), delays_of(reader, book, second)
    return ("differ", triple_of(reader), book, second), row


def delays_of(reader, book, second):
    """For each useful stand which version is ahead of the other one there, and by what, None for other stands."""
    stands = useful(reader)
    is_useful = flags_of(len(reader), stands)
    delays = [None] * len(reader)
    waiting = list(stands[:1])
    for stand in waiting:
        delays[stand] = (0, "")
    while waiting:
        stand = waiting.pop()
        for sign in range(reader.signs):
            goal = reader.arrows[stand][sign]
            if goal is not None and is_useful[goal] and delays[goal] is None:
                delays[goal] = longer_delay(delays[stand], book[sign], second[sign])
                waiting.append(goal)
    return tuple(delays)


def certify_duel(reader, first, second):
    """That the first one can have its way in a duel, or the second one can bar it, with a paper."""
    turns = least_turns(reader, first, second)
    if turns is None:
        return ("bars", triple_of(reader), first, second), barring(reader, first, second)
    return ("forces", triple_of(reader), first, second, turns), plan(reader, first, second)


def certify_reset(reader):
    """That a row resets the reader, or that none does, with a paper."""
    row = reset_row(reader)
    if row is not None:
        return ("resets", triple_of(reader), row), ()
    size = len(reader)
    pairs = [(one, two) for one in range(size) for two in range(one + 1, size)]
    return ("parted", triple_of(reader)), tuple([pair for pair in pairs if not joins(reader, pair[0], pair[1])])


def certify_count(reader, length):
    """How many yes rows of this length there are, with a paper."""
    many = count_of(reader, length)
    return ("count", triple_of(reader), length, many), ()
