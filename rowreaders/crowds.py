"""Crowds: some stands together, as an integer with the bit of each of them set."""

from rowreaders.checks import ALPHABET


def crowd_of(stands):
    """The crowd of some stands."""
    crowd = 0
    for stand in stands:
        crowd |= 1 << stand
    return crowd


def stands_of(crowd):
    """The stands of a crowd, ascending."""
    stands = []
    while crowd:
        lowest = crowd & -crowd
        stands.append(lowest.bit_length() - 1)
        crowd ^= lowest
    return stands


def size_of(crowd):
    """How many stands a crowd has."""
    return f"{crowd:b}".count("1")


def union(links, crowd):
    """All stands with which those of a crowd are linked; links has a crowd for each stand."""
    goals = 0
    for stand in stands_of(crowd):
        goals |= links[stand]
    return goals


def spread(links, crowd):
    """The crowd, and all that can be come to from it along links."""
    met = crowd
    fresh = crowd
    while fresh:
        fresh = union(links, fresh) & ~met
        met |= fresh
    return met


def turned_links(links):
    """The links the other way round."""
    turned = [0] * len(links)
    for stand in range(len(links)):
        for goal in stands_of(links[stand]):
            turned[goal] |= 1 << stand
    return turned


def going_round(links):
    """The crowd of the stands from which links lead back to them."""
    return crowd_of([stand for stand in range(len(links)) if spread(links, links[stand]) >> stand & 1])


def first_row(signs, moved, begins, goals):
    """The first row that leads from one of the begins to one of the goals, or None.

    moved is called with a crowd and a sign. Each stand is gone on from once, when its first row is known.
    """
    if begins & goals:
        return ""
    met = begins
    crowds = [(begins, "")]
    at = 0
    while at < len(crowds):
        crowd, row = crowds[at]
        for sign in range(signs):
            fresh = moved(crowd, sign) & ~met
            if fresh & goals:
                return row + ALPHABET[sign]
            if fresh:
                met |= fresh
                crowds.append((fresh, row + ALPHABET[sign]))
        at += 1
    return None
