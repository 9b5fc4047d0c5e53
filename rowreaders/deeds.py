"""Deeds: what rows do to all stands of the least reader at once, and what this tells of the reader."""

from rowreaders.checks import ALPHABET, check_row, is_between
from rowreaders.errors import InvalidNumber, TooMany
from rowreaders.likeness import full_least, least
from rowreaders.limits import MOST_DEEDS
from rowreaders.looks import looks_table, strewn_table, unlike_pair
from rowreaders.minimal import longest_ways
from rowreaders.readers import check_reader, led_from

MOST_PIECE = 3


def deed_of(reader, row):
    """The deed of a row."""
    check_reader(reader)
    check_row(reader.signs, row)
    made = least(reader)
    return tuple([led_from(made, stand, row) for stand in range(len(made))])


def sign_deeds(made):
    """The deeds of the signs of a least reader."""
    return [tuple([goals[sign] for goals in made.arrows]) for sign in range(made.signs)]


def joined(first, second):
    """The deed of two rows, the one behind the other, by their deeds."""
    return tuple([None if goal is None else second[goal] for goal in first])


def all_deeds(reader):
    """The rows and the deeds of deeds_of, as two lists."""
    made = least(reader)
    signs = sign_deeds(made)
    rows = [""]
    deeds = [tuple(range(len(made)))]
    met = {deeds[0]}
    at = 0
    while at < len(deeds):
        for sign in range(made.signs):
            deed = joined(deeds[at], signs[sign])
            if deed not in met:
                if len(deeds) == MOST_DEEDS:
                    raise TooMany(MOST_DEEDS)
                met.add(deed)
                rows.append(rows[at] + ALPHABET[sign])
                deeds.append(deed)
        at += 1
    return rows, deeds


def deeds_of(reader):
    """The pairs of the first row and the deed, of all deeds, in the order of these rows."""
    check_reader(reader)
    rows, deeds = all_deeds(reader)
    return tuple(zip(rows, deeds))


def round_of(reader, row):
    """The round of a row."""
    check_reader(reader)
    check_row(reader.signs, row)
    _, deeds = all_deeds(reader)
    step = deed_of(reader, row)
    # The empty row is the row repeated no times, and its deed is the first one.
    times = {}
    deed = deeds[0]
    while deed not in times:
        times[deed] = len(times)
        deed = joined(deed, step)
    return times[deed], len(times) - times[deed]


def is_groupfree(reader):
    """Whether p is 1 in the rounds of all rows."""
    check_reader(reader)
    return group_row(reader) is None


def group_row(reader):
    """The first row in whose round p is above 1, or None."""
    check_reader(reader)
    rows, deeds = all_deeds(reader)
    for at in range(len(deeds)):
        often = deeds[at]
        repeated = 1
        # Repeated as often as there are deeds, or more often, a row is surely in its round.
        while repeated < len(deeds):
            often = joined(often, often)
            repeated = repeated + repeated
        if joined(often, deeds[at]) != often:
            return rows[at]
    return None


def exchange_pair(reader):
    """The first pair of different signs such that it matters in which order they stand, or None."""
    check_reader(reader)
    signs = sign_deeds(least(reader))
    for one in range(len(signs)):
        for two in range(one + 1, len(signs)):
            if joined(signs[one], signs[two]) != joined(signs[two], signs[one]):
                return ALPHABET[one], ALPHABET[two]
    return None


def by_last(reader):
    """The least k such that the last k signs tell whether a row with as many is a yes row, or None."""
    check_reader(reader)
    arrows, _ = full_least(reader)
    number = {}
    for two in range(len(arrows)):
        for one in range(two):
            number[one, two] = len(number)
    links = []
    for one, two in number:
        goals = [(min(pair), max(pair)) for pair in zip(arrows[one], arrows[two])]
        links.append([number[goal] for goal in goals if goal in number])
    return steps_to_settle(links)


def by_first(reader):
    """The least k such that the first k signs tell whether a row with as many is a yes row, or None."""
    check_reader(reader)
    arrows, _ = full_least(reader)
    # Full least arrows that lead from a stand to itself alone let nothing behind it matter.
    loose = [stand for stand in range(len(arrows)) if set(arrows[stand]) != {stand}]
    number = {loose[at]: at for at in range(len(loose))}
    return steps_to_settle([[number[goal] for goal in arrows[stand] if goal in number] for stand in loose])


def steps_to_settle(links):
    """How many steps it takes at most until all that is linked is left behind; None if this may never be."""
    ways = longest_ways(links)
    if ways is None:
        return None
    return 1 + max(ways) if ways else 0


def check_size(size):
    """Let only a size of pieces pass."""
    if not is_between(size, 1, MOST_PIECE):
        raise InvalidNumber(size)


def unlike_looks(reader, size):
    """Any pair of a yes row and a no row with the same look, or None."""
    check_reader(reader)
    check_size(size)
    return unlike_pair(reader, looks_table(reader.signs, size))


def unlike_strewn(reader, size):
    """Any pair of a yes row and a no row with the same strewn pieces of up to so many signs, or None."""
    check_reader(reader)
    check_size(size)
    return unlike_pair(reader, strewn_table(reader.signs, size))


def is_strewn(reader):
    """Whether strewn pieces of up to some number of signs tell whether a row is a yes row.

    By Simon's theorem this is so exactly if no deed can be come back to once it is left, neither by signs put
    behind rows nor by signs put ahead of them.
    """
    check_reader(reader)
    signs = sign_deeds(least(reader))
    _, deeds = all_deeds(reader)
    number = {deeds[at]: at for at in range(len(deeds))}
    onward = [[number[joined(deed, sign)] for sign in signs] for deed in deeds]
    ahead = [[number[joined(sign, deed)] for sign in signs] for deed in deeds]
    return not comes_back(onward) and not comes_back(ahead)


def comes_back(links):
    """Whether some way along links leads away and back again."""
    return longest_ways([[goal for goal in links[at] if goal != at] for at in range(len(links))]) is None
