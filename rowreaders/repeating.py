"""Which rows, put behind each other without end, lead on for ever, by marks again and again."""

from rowreaders.fates import Fates
from rowreaders.tellings import Tellings

# When so many fates are found it is looked at first how unlike they are, and each time there are twice as many.
FIRST_LOOK = 400
MOST_LOOKED_AT = 300
MOST_RESTS = 64


class Repeats:
    """The fates of all rows, as they are found, with what leads to each of them."""

    def __init__(self, fates):
        self.fates = fates
        self.found = [tuple(fates.standing)]
        # The empty row is not repeated, so rows that do no more than it are not taken for it.
        self.place = {}
        self.ways = [None]
        self.leads = []
        self.tellings = Tellings(fates)

    def go_on(self):
        """Find what the next fate leads to."""
        at = len(self.leads)
        goals = []
        for sign in range(len(self.fates.later)):
            goal = self.fates.after(self.found[at], sign)
            if goal is not None and goal not in self.place:
                self.place[goal] = len(self.found)
                self.found.append(goal)
                self.ways.append((at, sign))
            goals.append(None if goal is None else self.place[goal])
        self.leads.append(goals)

    def row_of(self, at):
        """The numbers of the signs of the row with which a fate was found."""
        row = []
        while self.ways[at] is not None:
            at, sign = self.ways[at]
            row.append(sign)
        return row[::-1]

    def check_unlike(self):
        """Let pass only if rests behind rows do not tell that too many of the fates are unlike."""
        many = len(self.found)
        some = [self.found[at] for at in range(1, many, 1 + many // MOST_LOOKED_AT)]
        rests = [self.fates.whole(self.row_of(at)) for at in range(0, many, 1 + many // MOST_RESTS)]
        rests += [self.fates.no_rest(fate) for fate in some] + [self.fates.yes_rest(fate) for fate in some]
        self.tellings.take([rest for rest in rests if rest is not None], some)
        self.tellings.settle(some)

    def yes_fates(self):
        """The fates, by their numbers, of rows that say yes."""
        return [at for at in range(1, len(self.found)) if self.fates.is_yes(self.found[at], self.fates.standing)]


def repeating_parts(signs, arrows, marks):
    """Arrows and ends of all rows, not empty, that lead on from stand 0 by a mark again and again if repeated."""
    repeats = Repeats(Fates(signs, arrows, marks))
    look = FIRST_LOOK
    while len(repeats.leads) < len(repeats.found):
        if len(repeats.found) >= look:
            repeats.check_unlike()
            look = 2 * look
        repeats.go_on()
    return repeats.leads, repeats.yes_fates()
