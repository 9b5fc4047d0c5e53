"""As few stands as can be: stands that are alike are put together, and numbered by first rows.

All of this works on plain lists: arrows, for each stand a list or tuple of goals, and ends, some stands.
"""

from rowreaders.errors import TooMany


class Lots:
    """All stands, fallen apart in lots that can be split; each lot lies side by side in one list."""

    def __init__(self, size):
        self.order = list(range(size))
        self.place = list(range(size))
        self.lot_of = [0] * size
        self.first = [0]
        self.stop = [size]
        self.marked = [0]
        self.touched = []

    def members(self, lot):
        """The stands of a lot."""
        return self.order[self.first[lot]:self.stop[lot]]

    def mark(self, stand):
        """Mark a stand for the next parting; the marked ones lie ahead of the others of their lot."""
        lot = self.lot_of[stand]
        goal = self.first[lot] + self.marked[lot]
        at = self.place[stand]
        if at < goal:
            return
        if not self.marked[lot]:
            self.touched.append(lot)
        self.marked[lot] += 1
        other = self.order[goal]
        self.order[goal] = stand
        self.order[at] = other
        self.place[stand] = goal
        self.place[other] = at

    def part(self):
        """Part marked stands from the others; the new lots are told, of both parts the smaller one."""
        made = []
        for lot in self.touched:
            first, stop = self.first[lot], self.stop[lot]
            middle = first + self.marked[lot]
            self.marked[lot] = 0
            if middle < stop:
                made.append(len(self.first))
                self.cut(lot, first, middle, stop)
        self.touched = []
        return made

    def cut(self, lot, first, middle, stop):
        """Make a new lot of the smaller part of this one."""
        if middle - first <= stop - middle:
            self.first[lot] = middle
            stop = middle
        else:
            self.stop[lot] = middle
            first = middle
        for stand in self.order[first:stop]:
            self.lot_of[stand] = len(self.first)
        self.first.append(first)
        self.stop.append(stop)
        self.marked.append(0)


def reached(links, begins):
    """For each stand whether it can be come to from the begins; links has for each one those next to it."""
    met = [False] * len(links)
    for stand in begins:
        met[stand] = True
    waiting = list(begins)
    while waiting:
        stand = waiting.pop()
        for goal in links[stand]:
            if not met[goal]:
                met[goal] = True
                waiting.append(goal)
    return met


def stands_met(links, begin):
    """The stands that can be come to from a stand, itself among them."""
    met = reached(links, [begin])
    return [stand for stand in range(len(met)) if met[stand]]


def flags_of(size, stands):
    """For each of so many stands whether it is one of these."""
    flags = [False] * size
    for stand in stands:
        flags[stand] = True
    return flags


def links_of(arrows):
    """For each stand the stands to which its arrows lead."""
    return [[goal for goal in goals if goal is not None] for goals in arrows]


def links_back(links):
    """For each stand those that are linked with it, as often as they are."""
    back = [[] for _ in links]
    for stand in range(len(links)):
        for goal in links[stand]:
            back[goal].append(stand)
    return back


def useful_stands(arrows, ends):
    """The useful stands, ascending."""
    links = links_of(arrows)
    fore = reached(links, [0])
    back = reached(links_back(links), ends)
    return [stand for stand in range(len(arrows)) if fore[stand] and back[stand]]


def kept(arrows, ends, stands):
    """The arrows and ends of some stands alone, numbered anew; arrows to others lead nowhere."""
    number = [None] * len(arrows)
    for at in range(len(stands)):
        number[stands[at]] = at
    rest = [[None if goal is None else number[goal] for goal in arrows[stand]] for stand in stands]
    return rest, [number[stand] for stand in ends if number[stand] is not None]


def longest_ways(links):
    """For each stand how many links the longest way from it has; None if some way goes round."""
    back = links_back(links)
    # Stands are done when all links from them lead to done ones, so stands on a way round never are.
    unfinished = [len(goals) for goals in links]
    done = [stand for stand in range(len(links)) if not links[stand]]
    left = [0] * len(links)
    at = 0
    while at < len(done):
        goal = done[at]
        for stand in back[goal]:
            left[stand] = max(left[stand], left[goal] + 1)
            unfinished[stand] -= 1
            if not unfinished[stand]:
                done.append(stand)
        at += 1
    return left if len(done) == len(links) else None


def lots_of(signs, arrows, kinds, limit):
    """For each stand the number of its lot of stands that are alike; all stands must be useful.

    kinds are lists of stands that are unlike all stands out of their list from the beginning.
    """
    origins = [[] for _ in arrows]
    for stand in range(len(arrows)):
        for sign in range(signs):
            if arrows[stand][sign] is not None:
                origins[arrows[stand][sign]].append((sign, stand))
    lots = Lots(len(arrows))
    waiting = [0]
    for stands in kinds:
        for stand in stands:
            lots.mark(stand)
        waiting += lots.part()
    while waiting:
        begins = [[] for _ in range(signs)]
        lot = waiting.pop()
        for goal in lots.members(lot):
            for sign, stand in origins[goal]:
                begins[sign].append(stand)
        for stands in begins:
            for stand in stands:
                lots.mark(stand)
            waiting += lots.part()
            # Each lot is a stand of the least reader, so nothing behind this can mend it.
            if len(lots.first) > limit:
                raise TooMany(limit)
    return lots.lot_of


def by_first_rows(arrows, lot_of):
    """A stand of each lot, and the number of each stand's lot, both by first rows; lots are numbered anew."""
    number = {lot_of[0]: 0}
    stands = [0]
    at = 0
    while at < len(stands):
        for goal in arrows[stands[at]]:
            if goal is not None and lot_of[goal] not in number:
                number[lot_of[goal]] = len(stands)
                stands.append(goal)
        at += 1
    return stands, [number[lot] for lot in lot_of]


def with_numbers(goals, number):
    """The goals of some arrows by their new numbers."""
    return tuple([None if goal is None else number[goal] for goal in goals])


def full_parts(signs, arrows, ends):
    """The least arrows and ends made full: if need be, with one stand more to which all others lead.

    No full ones with these yes rows have fewer stands, so all stands say unlike things.
    """
    if not ends:
        return [(0,) * signs], ()
    nowhere = len(arrows)
    made = [tuple([nowhere if goal is None else goal for goal in goals]) for goals in arrows]
    if any([None in goals for goals in arrows]):
        made.append((nowhere,) * signs)
    return made, ends


def other_parts(signs, arrows, ends):
    """Full arrows and ends of all rows but the yes rows of these, with one stand more."""
    nowhere = len(arrows)
    made = [[nowhere if goal is None else goal for goal in goals] for goals in arrows]
    made.append([nowhere] * signs)
    is_end = flags_of(len(made), ends)
    return made, [stand for stand in range(len(made)) if not is_end[stand]]


def nothing(signs):
    """The arrows and ends of the least reader without yes rows."""
    return ((None,) * signs,), ()


def least_parts(signs, arrows, ends, limit):
    """The arrows and ends of the least reader; TooMany(limit) if it has more stands than that."""
    stands = useful_stands(arrows, ends)
    if not stands:
        return nothing(signs)
    arrows, ends = kept(arrows, ends, stands)
    stands, number = by_first_rows(arrows, lots_of(signs, arrows, [ends], limit))
    made = [with_numbers(arrows[stand], number) for stand in stands]
    return tuple(made), tuple(sorted({number[end] for end in ends}))
