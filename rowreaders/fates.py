"""What rows do to the stands of a watcher, if they are put behind each other without end.

Only by a row that keeps to a plain knot can one lead round without a mark: to a knot of stands that are no marks,
and of links between these. What a row does is told by a fate: for each stand the code of where the row leads from
there, twice the stand, and 1 more if it does not keep to a plain knot, or never will lead stand 0 there, too;
NOWHERE if it leads nowhere, or if that does not matter any more, whatever comes behind the row; SAFE if from there
it leads on for ever, by marks again and again, whatever comes behind the row.
"""

from rowreaders.crowds import crowd_of, spread
from rowreaders.knots import knots_of, links_among, on_rounds
from rowreaders.minimal import flags_of, links_back, links_of, reached

# These are odd, as if a row did not keep to a plain knot.
NOWHERE = -1
SAFE = -3
# The fate of a row that says yes, whatever comes behind it.
SURE = ()
# Stand 0, come to by a row that does not keep to a plain knot.
HOME = 1
MOST_TRIED = 4
MOST_PAIRS = 100000


class Fates:
    """What signs do to fates; all begins at stand 0."""

    def __init__(self, signs, arrows, marks):
        self.leads = arrows
        self.links = links_of(arrows)
        self.plain = plain_knots(self.links, flags_of(len(arrows), marks))
        self.standing = [2 * stand + (self.plain[stand] is None) for stand in range(len(arrows))]
        self.later = [self.table_of(sign) for sign in range(signs)]
        loose = [stand for stand in range(len(arrows)) if None in arrows[stand]]
        self.may_end = reached(links_back(self.links), loose)
        self.behind = {}
        self.meeting = meeting_steps(arrows, self.plain)
        self.homeward = homeward_steps(self.later, 2 * len(arrows))
        crowds = [crowd_of(goals) for goals in self.links]
        self.ahead = [spread(crowds, 1 << stand) for stand in range(len(arrows))]

    def table_of(self, sign):
        """For each code the code with one sign more; at the end NOWHERE and SAFE stand at their own places."""
        table = []
        for stand in range(len(self.leads)):
            goal = self.leads[stand][sign]
            if goal is None:
                table += [NOWHERE, NOWHERE]
            else:
                keeps = self.plain[stand] is not None and self.plain[stand] == self.plain[goal]
                table += [2 * goal + (not keeps), 2 * goal + 1]
        return table + [SAFE, NOWHERE, NOWHERE]

    def after(self, fate, sign):
        """The fate of a row with one sign more; None if it leads nowhere."""
        if fate == SURE:
            return SURE
        table = self.later[sign]
        if table[fate[0]] == NOWHERE:
            return None
        goal = table[fate[0]] >> 1
        codes = [table[code] if flag else NOWHERE for code, flag in zip(fate, self.met_behind(goal))]
        even = [code >> 1 for code in codes if code & 1 == 0]
        knots = {self.plain[stand]: True for stand in even if self.may_meet(goal, stand)}
        codes = [code if code & 1 or self.plain[code >> 1] in knots else code + 1 for code in codes]
        return tuple(codes) if self.may_end[goal] else self.eased(codes)

    def met_behind(self, goal):
        """For each stand whether the row may be repeated from there, once it has led to this goal."""
        if goal not in self.behind:
            met = reached(self.links, [goal])
            met[0] = True
            self.behind[goal] = met
        return self.behind[goal]

    def may_meet(self, one, two):
        """Whether some row may lead both stands to one, and keep to a plain knot from the latter one."""
        return not self.meeting or (one, two) in self.meeting

    def eased(self, codes):
        """The fate with such codes of a row behind which nothing leads nowhere.

        It says no only if one is led on to even codes, and then comes back to these alone.
        """
        even = [stand for stand in range(len(codes)) if codes[stand] & 1 == 0]
        crowd = crowd_of(even)
        # Where these are led to what stand 0 is led to, one is led from stand 0 to one of these at once, or never.
        is_merged = all([codes[stand] >> 1 == codes[0] >> 1 for stand in even])
        fate = []
        for stand in range(len(codes)):
            code = codes[stand]
            if code & 1 and code != NOWHERE and code != SAFE:
                is_left = is_merged and stand > 0
                code = SAFE if is_left or not self.ahead[code >> 1] & crowd else code
            fate.append(code)
        return SURE if fate[0] == SAFE else tuple(fate)

    def whole(self, row):
        """The fate of a row, whatever stands ahead of it; the row has the numbers of its signs."""
        codes = self.standing
        for sign in row:
            table = self.later[sign]
            codes = [table[code] for code in codes]
        return codes

    def joined(self, sign, rest):
        """The fate that is whole of a sign and a rest behind it."""
        codes = []
        for code in self.whole([sign]):
            more = NOWHERE if code == NOWHERE else rest[code >> 1]
            codes.append(more if more == NOWHERE else more | code & 1)
        return codes

    def is_yes(self, fate, rest):
        """Whether a row with this fate, and behind it one with a fate that is whole, says yes."""
        if fate == SURE:
            return True
        times = {}
        odd = []
        stand = 0
        while stand not in times:
            times[stand] = len(times)
            code = fate[stand]
            if code == SAFE:
                return True
            more = NOWHERE if code == NOWHERE else rest[code >> 1]
            if more == NOWHERE:
                return False
            odd.append((code | more) & 1)
            stand = more >> 1
        return any(odd[times[stand]:])

    def yes_rest(self, fate):
        """The whole fate of a rest that leads stand 0 back to itself by a mark, or None if there is none."""
        if fate == SURE or fate[0] not in self.homeward:
            return None
        row, _ = along(self.homeward, fate[0])
        return self.whole(row)

    def no_rest(self, fate):
        """The whole fate of a rest with which a row with this fate says no, or None if none is found soon."""
        even = [stand for stand in range(len(fate)) if fate[stand] & 1 == 0]
        for stand in even[:MOST_TRIED]:
            pair = (fate[0] >> 1, fate[stand] >> 1)
            row, (_, place) = along(self.meeting, pair) if pair in self.meeting else ([], pair)
            rest = self.whole(row + self.way_back(place, stand))
            if not self.is_yes(fate, rest):
                return rest
        return None

    def way_back(self, stand, goal):
        """A shortest row, by the numbers of its signs, from a stand to another one of its plain knot."""
        rows = {stand: []}
        waiting = [stand]
        at = 0
        while goal not in rows:
            here = waiting[at]
            for sign in range(len(self.later)):
                there = self.leads[here][sign]
                if there is not None and there not in rows and self.plain[there] == self.plain[stand]:
                    rows[there] = rows[here] + [sign]
                    waiting.append(there)
            at += 1
        return rows[goal]


def plain_knots(links, is_mark):
    """For each stand the number of its plain knot, None if there is none."""
    plain = links_among(links, [not flag for flag in is_mark])
    knot = knots_of(plain)
    rounds = on_rounds(plain)
    return [knot[stand] if rounds[stand] else None for stand in range(len(links))]


def along(steps, place):
    """The signs of the steps from a place to the last one, and this one."""
    row = []
    while steps[place] is not None:
        sign, place = steps[place]
        row.append(sign)
    return row, place


def steps_to(goals, back):
    """For each place from which signs lead to one of the goals the first step of a shortest row, None for goals.

    back has for each place those from which signs lead there, with these signs.
    """
    steps = {goal: None for goal in goals}
    waiting = list(goals)
    at = 0
    while at < len(waiting):
        for sign, place in back.get(waiting[at], ()):
            if place not in steps:
                steps[place] = (sign, waiting[at])
                waiting.append(place)
        at += 1
    return steps


def homeward_steps(tables, many):
    """For each code from which signs lead to stand 0, by a row that does not keep to a plain knot, the first step."""
    back = {}
    for sign in range(len(tables)):
        for code in range(many):
            back.setdefault(tables[sign][code], []).append((sign, code))
    return steps_to([HOME], back)


def meeting_steps(arrows, plain):
    """For each stand and one of a plain knot, if some row keeps to it and leads both to one stand, the first step.

    Nothing is told of any pair if there are too many of them.
    """
    inner = [stand for stand in range(len(arrows)) if plain[stand] is not None]
    back = {}
    if len(arrows) * len(inner) > MOST_PAIRS:
        return {}
    for two in inner:
        for one in range(len(arrows)):
            for sign in range(len(arrows[two])):
                goal, other = arrows[one][sign], arrows[two][sign]
                if goal is not None and other is not None and plain[other] == plain[two]:
                    back.setdefault((goal, other), []).append((sign, (one, two)))
    return steps_to([(stand, stand) for stand in inner], back)
