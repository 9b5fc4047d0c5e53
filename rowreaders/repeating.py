"""Rows that are put behind each other without end: whether they lead on for ever, by marks again and again.

Only by a row that keeps to a plain knot can one lead round without a mark: to a knot of stands that are no marks,
and of links between these. What a row does is told by a fate: for each stand the code of where the row leads from
there, twice the stand, and 1 more if it does not keep to a plain knot, or never will lead stand 0 there, too;
NOWHERE if it leads nowhere, or if that does not matter any more, whatever comes behind the row.
"""

from rowreaders.errors import TooMany
from rowreaders.knots import knots_of, links_among, on_rounds
from rowreaders.limits import MOST_STANDS
from rowreaders.minimal import flags_of, links_back, links_of, reached

NOWHERE = -1
# The fate of a row that says yes, whatever comes behind it.
SURE = ()
# When so many fates are found it is looked at first how unlike they are, and each time there are twice as many.
FIRST_LOOK = 400
MOST_LOOKED_AT = 300
MOST_RESTS = 64
MOST_TRIED = 4
MOST_PAIRS = 100000


class Fates:
    """What signs do to fates; all begins at stand 0."""

    def __init__(self, signs, arrows, marks):
        self.leads = arrows
        self.links = links_of(arrows)
        self.plain = plain_knots(self.links, flags_of(len(arrows), marks))
        self.standing = [2 * stand + (self.plain[stand] is None) for stand in range(len(arrows))]
        self.later = [self.table_of(sign) for sign in range(signs)]
        loose = [stand for stand in range(len(arrows)) if None in arrows[stand]]
        self.may_end = reached(links_back(self.links), loose)
        self.behind = {}
        self.may_meet = meeting_pairs(arrows, self.plain)

    def table_of(self, sign):
        """For each code the code with one sign more; NOWHERE stands at the end, so that it is its own place."""
        table = []
        for stand in range(len(self.leads)):
            goal = self.leads[stand][sign]
            if goal is None:
                table += [NOWHERE, NOWHERE]
            else:
                keeps = self.plain[stand] is not None and self.plain[stand] == self.plain[goal]
                table += [2 * goal + (not keeps), 2 * goal + 1]
        return table + [NOWHERE]

    def after(self, fate, sign):
        """The fate of a row with one sign more; None if it leads nowhere."""
        if fate == SURE:
            return SURE
        table = self.later[sign]
        if table[fate[0]] == NOWHERE:
            return None
        goal = table[fate[0]] >> 1
        codes = [table[code] if flag else NOWHERE for code, flag in zip(fate, self.met_behind(goal))]
        even = [code >> 1 for code in codes if code & 1 == 0]
        knots = {self.plain[stand]: True for stand in even if self.may_meet.get((goal, stand), True)}
        codes = [code if self.plain[code >> 1] in knots else code | 1 for code in codes]
        # NOWHERE is odd, too.
        if not self.may_end[goal] and all([code & 1 for code in codes]):
            return SURE
        return tuple(codes)

    def met_behind(self, goal):
        """For each stand whether the row may be repeated from there, once it has led to this goal."""
        if goal not in self.behind:
            met = reached(self.links, [goal])
            met[0] = True
            self.behind[goal] = met
        return self.behind[goal]

    def whole(self, row):
        """The fate of a row, whatever stands ahead of it; the row has the numbers of its signs."""
        codes = self.standing
        for sign in row:
            table = self.later[sign]
            codes = [table[code] for code in codes]
        return codes

    def is_yes(self, fate, rest):
        """Whether a row with this fate, and behind it one with a fate that is whole, says yes."""
        if fate == SURE:
            return True
        times = {}
        odd = []
        stand = 0
        while stand not in times:
            times[stand] = len(times)
            code = fate[stand]
            more = NOWHERE if code == NOWHERE else rest[code >> 1]
            if more == NOWHERE:
                return False
            odd.append((code | more) & 1)
            stand = more >> 1
        return any(odd[times[stand]:])

    def way_back(self, stand, goal):
        """A shortest row, by the numbers of its signs, from a stand to another one of its plain knot."""
        rows = {stand: ()}
        waiting = [stand]
        at = 0
        while goal not in rows:
            here = waiting[at]
            for sign in range(len(self.later)):
                there = self.leads[here][sign]
                if there is not None and there not in rows and self.plain[there] == self.plain[stand]:
                    rows[there] = rows[here] + (sign,)
                    waiting.append(there)
            at += 1
        return rows[goal]

    def failing_rest(self, fate):
        """The whole fate of a rest with which a row with this fate says no, or None if none is found soon."""
        even = [stand for stand in range(len(fate)) if fate[stand] & 1 == 0]
        for stand in even[:MOST_TRIED]:
            rest = self.whole(self.way_back(fate[stand] >> 1, stand))
            if not self.is_yes(fate, rest):
                return rest
        return None


def plain_knots(links, is_mark):
    """For each stand the number of its plain knot, None if there is none."""
    plain = links_among(links, [not flag for flag in is_mark])
    knot = knots_of(plain)
    rounds = on_rounds(plain)
    return [knot[stand] if rounds[stand] else None for stand in range(len(links))]


def meeting_pairs(arrows, plain):
    """For each pair of a stand and one of a plain knot whether some row keeps to it and leads both to one stand.

    Nothing is told of any pair if there are too many of them.
    """
    inner = [stand for stand in range(len(arrows)) if plain[stand] is not None]
    if len(arrows) * len(inner) > MOST_PAIRS:
        return {}
    pairs = [(one, two) for one in range(len(arrows)) for two in inner]
    number = {pairs[at]: at for at in range(len(pairs))}
    back = [[] for _ in pairs]
    for one, two in pairs:
        for goal, other in zip(arrows[one], arrows[two]):
            if goal is not None and other is not None and plain[other] == plain[two]:
                back[number[goal, other]].append(number[one, two])
    met = reached(back, [number[stand, stand] for stand in inner])
    return {pairs[at]: met[at] for at in range(len(pairs))}


class Repeats:
    """The fates of all rows, as they are found, with what leads to each of them."""

    def __init__(self, fates):
        self.fates = fates
        self.found = [tuple(fates.standing)]
        # The empty row is not repeated, so rows that do no more than it are not taken for it.
        self.place = {}
        self.ways = [None]
        self.leads = []
        self.unlike = []
        self.telling = []

    def go_on(self):
        """Find what the next fate leads to."""
        at = len(self.leads)
        goals = []
        for sign in range(len(self.fates.later)):
            goal = self.fates.after(self.found[at], sign)
            if goal is not None and goal not in self.place:
                self.place[goal] = len(self.found)
                self.found.append(goal)
                self.ways.append((at, sign))
            goals.append(None if goal is None else self.place[goal])
        self.leads.append(goals)

    def row_of(self, at):
        """The numbers of the signs of the row with which a fate was found."""
        row = []
        while self.ways[at] is not None:
            at, sign = self.ways[at]
            row.append(sign)
        return row[::-1]

    def check_unlike(self):
        """Let pass only if rests behind rows do not tell that too many of the fates are unlike."""
        many = len(self.found)
        some = [self.found[at] for at in range(1, many, 1 + many // MOST_LOOKED_AT)]
        rests = [self.fates.whole(self.row_of(at)) for at in range(0, many, 1 + many // MOST_RESTS)]
        rests += [rest for rest in [self.fates.failing_rest(fate) for fate in some] if rest is not None]
        fates = self.unlike + some
        lots = [0] * len(fates)
        telling = []
        for rest in self.telling + rests:
            parted = [(lots[at], self.fates.is_yes(fates[at], rest)) for at in range(len(fates))]
            names = {}
            finer = [names.setdefault(each, len(names)) for each in parted]
            if len(names) > MOST_STANDS:
                raise TooMany(MOST_STANDS)
            if len(names) > 1 + max(lots):
                telling.append(rest)
            lots = finer
        self.telling = telling
        self.unlike = [fates[lots.index(lot)] for lot in range(1 + max(lots))]

    def yes_fates(self):
        """The fates, by their numbers, of rows that say yes."""
        return [at for at in range(1, len(self.found)) if self.fates.is_yes(self.found[at], self.fates.standing)]


def repeating_parts(signs, arrows, marks):
    """Arrows and ends of all rows, not empty, that lead on from stand 0 by a mark again and again if repeated."""
    repeats = Repeats(Fates(signs, arrows, marks))
    look = FIRST_LOOK
    while len(repeats.leads) < len(repeats.found):
        if len(repeats.found) >= look:
            repeats.check_unlike()
            look += look
        repeats.go_on()
    return repeats.leads, repeats.yes_fates()
