"""Yes rows listed, counted and numbered."""

from rowreaders.checks import ALPHABET, check_length, check_number, check_row
from rowreaders.errors import TooMany
from rowreaders.limits import MOST_LISTED, MOST_ROW
from rowreaders.minimal import kept, links_of, longest_ways, useful_stands
from rowreaders.readers import check_reader, end_flags, led_from


def counts_up_to(reader, length):
    """For each length up to this one the list that has, for each stand, how many such rows lead to an end."""
    links = links_of(reader.arrows)
    counts = [[1 if end else 0 for end in end_flags(reader)]]
    for _ in range(length):
        last = counts[-1]
        counts.append([sum([last[goal] for goal in goals]) for goals in links])
    return counts


def count_of(reader, length):
    """How many yes rows of this length there are."""
    check_reader(reader)
    check_length(length)
    return counts_up_to(reader, length)[length][0]


def rows_of(reader, length):
    """The ascending tuple of the yes rows of this length."""
    check_reader(reader)
    check_length(length)
    counts = counts_up_to(reader, length)
    if counts[length][0] > MOST_LISTED:
        raise TooMany(MOST_LISTED)
    fronts = [("", 0)] if counts[length][0] else []
    for left in range(length - 1, -1, -1):
        longer = []
        for row, stand in fronts:
            for sign in range(reader.signs):
                goal = reader.arrows[stand][sign]
                if goal is not None and counts[left][goal]:
                    longer.append((row + ALPHABET[sign], goal))
        fronts = longer
    return tuple([row for row, _ in fronts])


def row_at(reader, number):
    """The yes row with this number in the order of rows, or None."""
    check_reader(reader)
    check_number(number)
    counts = counts_up_to(reader, MOST_ROW)
    for length in range(MOST_ROW + 1):
        if number < counts[length][0]:
            return row_among(reader, counts, length, number)
        number -= counts[length][0]
    # A reader with finitely many yes rows has none that is as long as the number of its stands.
    if is_endless(reader):
        raise TooMany(MOST_ROW)
    return None


def row_among(reader, counts, length, number):
    """The yes row with this number among those of one length."""
    row = []
    stand = 0
    for left in range(length - 1, -1, -1):
        goals = reader.arrows[stand]
        many = [0 if goal is None else counts[left][goal] for goal in goals]
        sign = 0
        while number >= many[sign]:
            number -= many[sign]
            sign += 1
        row.append(ALPHABET[sign])
        stand = goals[sign]
    return "".join(row)


def number_of(reader, row):
    """The number of a yes row, None for a no row."""
    check_reader(reader)
    check_row(reader.signs, row)
    if led_from(reader, 0, row) not in reader.ends:
        return None
    counts = counts_up_to(reader, len(row))
    number = sum([counts[length][0] for length in range(len(row))])
    stand = 0
    for at in range(len(row)):
        sign = ALPHABET.index(row[at])
        goals = reader.arrows[stand]
        number += sum([counts[len(row) - at - 1][goal] for goal in goals[:sign] if goal is not None])
        stand = goals[sign]
    return number


def lengths_left(reader):
    """For each useful stand, as numbered among them, the longest row to an end; None if some are endless."""
    arrows, _ = kept(reader.arrows, reader.ends, useful_stands(reader.arrows, reader.ends))
    return longest_ways(links_of(arrows))


def is_endless(reader):
    """Whether there are endlessly many yes rows."""
    check_reader(reader)
    return lengths_left(reader) is None


def longest(reader):
    """The length of the longest yes row; None if there are none, or endlessly many."""
    check_reader(reader)
    left = lengths_left(reader)
    return left[0] if left else None
