"""Knots: in a knot are all stands that can be come to from each other, along links from stand to stand."""

from rowreaders.minimal import links_back


def knots_of(links):
    """For each stand the number of its knot."""
    back = links_back(links)
    knot = [None] * len(links)
    many = 0
    # The last stand to be done can be come back to by its knot alone, if those of later ones are left aside.
    for begin in behind_each_other(links)[::-1]:
        if knot[begin] is not None:
            continue
        knot[begin] = many
        waiting = [begin]
        while waiting:
            for stand in back[waiting.pop()]:
                if knot[stand] is None:
                    knot[stand] = many
                    waiting.append(stand)
        many += 1
    return knot


def behind_each_other(links):
    """The stands in the order in which all links from them, and from where these lead, are gone along."""
    met = [False] * len(links)
    done = []
    for begin in range(len(links)):
        way = [] if met[begin] else [(begin, 0)]
        met[begin] = True
        while way:
            stand, at = way.pop()
            if at == len(links[stand]):
                done.append(stand)
                continue
            way.append((stand, at + 1))
            goal = links[stand][at]
            if not met[goal]:
                met[goal] = True
                way.append((goal, 0))
    return done


def on_rounds(links):
    """For each stand whether links lead from it back to it."""
    knot = knots_of(links)
    sizes = {}
    for number in knot:
        sizes[number] = sizes.get(number, 0) + 1
    return [sizes[knot[stand]] > 1 or stand in links[stand] for stand in range(len(links))]


def links_among(links, flags):
    """The links between stands with the flag alone."""
    return [[goal for goal in links[stand] if flags[goal]] if flags[stand] else [] for stand in range(len(links))]
