"""Whether two outputs write the same for all rows: how far the one is ahead of the other.

A delay is a pair (side, text): what is written by the one (side 0) or by the other one (side 1) goes on with
this text where the other has come to its end; it is None once they write unlike things.
"""

from rowreaders.seeking import row_back


def delay_of(one, other):
    """The delay of two texts."""
    if one.startswith(other):
        return 0, one[len(other):]
    if other.startswith(one):
        return 1, other[len(one):]
    return None


def longer_delay(delay, one, other):
    """The delay when both write more."""
    if delay is None:
        return None
    side, text = delay
    return delay_of(one, text + other) if side else delay_of(text + one, other)


class Abreast:
    """Two outputs, each perhaps None if nothing is written, led by the same rows.

    Where they are is told by the stands of both, perhaps None, and the delay, which means nothing if one stand
    is None.
    """

    def __init__(self, one, other):
        self.one = one
        self.other = other

    def begin(self):
        """Where they are for the empty row."""
        if self.one is not None and self.other is not None:
            return 0, 0, delay_of(self.one.opening, self.other.opening)
        first = None if self.one is None else 0
        return first, None if self.other is None else 0, None

    def step(self, here, sign):
        """Where they are a sign later."""
        first, second, delay = here
        goal = None if first is None else self.one.leads[first][sign]
        other_goal = None if second is None else self.other.leads[second][sign]
        if goal is None or other_goal is None:
            return goal, other_goal, None
        one, other = self.one.texts[first][sign], self.other.texts[second][sign]
        return goal, other_goal, longer_delay(delay, one, other)

    def is_unlike(self, here):
        """Whether they write unlike things if a row ends here."""
        first, second, delay = here
        one = None if first is None else self.one.closing[first]
        other = None if second is None else self.other.closing[second]
        if one is None or other is None:
            return one is not None or other is not None
        return longer_delay(delay, one, other) != (0, "")


def first_row_unlike(signs, one, other):
    """The first row for which two outputs, with useful stands alone, do not write the same, or None.

    Where rows with two unlike delays have come to the same stands, for each rest one of both is written
    unlike, so no row that comes there later need be gone on with.
    """
    abreast = Abreast(one, other)
    waiting = [abreast.begin()]
    origin = {waiting[0]: None}
    often = {waiting[0][:2]: 1}
    at = 0
    while at < len(waiting):
        here = waiting[at]
        if abreast.is_unlike(here):
            return row_back(origin, here)
        for sign in range(signs):
            goal = abreast.step(here, sign)
            many = often.get(goal[:2], 0)
            if goal[:2] != (None, None) and goal not in origin and many < 2:
                often[goal[:2]] = many + 1
                origin[goal] = (here, sign)
                waiting.append(goal)
        at += 1
    return None
