"""Looking for places that rows lead to, and for first rows."""

from rowreaders.checks import ALPHABET


def first_row_to(signs, begin, step, is_goal):
    """The first row in the order of rows that leads from the beginning to a goal, or None.

    step tells for a place and the number of a sign the place a sign later, or None; each place is gone on from
    once, when its first row is known.
    """
    waiting = [begin]
    origin = {begin: None}
    at = 0
    while at < len(waiting):
        here = waiting[at]
        if is_goal(here):
            return row_back(origin, here)
        for sign in range(signs):
            goal = step(here, sign)
            if goal is not None and goal not in origin:
                origin[goal] = (here, sign)
                waiting.append(goal)
        at += 1
    return None


def row_back(origin, place):
    """The row along which a place was found; origin has for each place the one it came from, and the sign."""
    signs = []
    while origin[place] is not None:
        place, sign = origin[place]
        signs.append(ALPHABET[sign])
    return "".join(signs[::-1])


def explored(begin, steps):
    """All places that can be come to, and for each one the tuple of the numbers of those to which signs lead.

    steps tells for a place what the signs lead to, None for nowhere.
    """
    places = [begin]
    number = {begin: 0}
    arrows = []
    while len(arrows) < len(places):
        goals = []
        for goal in steps(places[len(arrows)]):
            if goal is not None and goal not in number:
                number[goal] = len(places)
                places.append(goal)
            goals.append(None if goal is None else number[goal])
        arrows.append(tuple(goals))
    return places, arrows
