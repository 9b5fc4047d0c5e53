"""Rows that part stands, found for all pairs of stands at once."""

from rowreaders.checks import ALPHABET
from rowreaders.minimal import flags_of


def origins_of(signs, arrows):
    """For each sign and stand the stands from which it leads there; nowhere is one stand more, the last one."""
    nowhere = len(arrows)
    origins = [[[] for _ in range(nowhere + 1)] for _ in range(signs)]
    for sign in range(signs):
        for stand in range(nowhere):
            goal = arrows[stand][sign]
            origins[sign][nowhere if goal is None else goal].append(stand)
        origins[sign][nowhere].append(nowhere)
    return origins


def parting_rows(signs, arrows, ends):
    """For each pair of stands that some row parts, the lesser one first, a shortest such row.

    Nowhere counts as one stand more, the last one.
    """
    origins = origins_of(signs, arrows)
    is_end = flags_of(len(arrows) + 1, ends)
    waiting = [(one, two) for two in range(len(is_end)) for one in range(two) if is_end[one] != is_end[two]]
    rows = {pair: "" for pair in waiting}
    at = 0
    while at < len(waiting):
        one, two = waiting[at]
        for sign in range(signs):
            row = ALPHABET[sign] + rows[one, two]
            for pair in pairs_of(origins[sign][one], origins[sign][two]):
                if pair not in rows:
                    rows[pair] = row
                    waiting.append(pair)
        at += 1
    return rows


def pairs_of(some, others):
    """All pairs of one of some stands and one of others, the lesser one first."""
    return [(min(one, two), max(one, two)) for one in some for two in others]
