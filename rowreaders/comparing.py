"""Whether the arrows of a reader that is guessed have just the rows of a net, or else rows that show it.

made has the arrows of the guessed reader, and crowds the crowd of the net that stands for each of its stands;
it is an end if a goal is in this crowd. Rows are told as lists of the numbers of their signs.
"""

from heapq import heappop, heappush

from rowreaders.crowds import crowd_of, size_of, union
from rowreaders.nets import moved

# To compare a crowd with more of those that have been is dearer than to go on from it.
MOST_COMPARED = 200
# To find some rows at once spares comparing again for each.
MOST_ROWS = 20


def rows_apart(net, crowds, made):
    """Some rows of which the net and the arrows say otherwise; none only if there is none at all."""
    rows = rows_of_net_alone(net, crowds, made)
    if not rows:
        row = row_of_arrows_alone(net, crowds, made)
        rows = [] if row is None else [row]
    return rows


def rows_of_net_alone(net, crowds, made):
    """Some rows that lead to a goal in the net alone; none only if there is none at all.

    Of each stand that the arrows come to it is enough to go on once from each stand of the net beside it.
    """
    nowhere = len(made)
    arrows = [[nowhere if goal is None else goal for goal in goals] for goals in made]
    arrows.append([nowhere] * len(net.onward))
    met = [0] * (nowhere + 1)
    met[0] = net.begin_crowd
    events = [(0, net.begin_crowd, None, None)]
    rows = []
    at = 0
    while at < len(events) and len(rows) < MOST_ROWS:
        stand, crowd, _, _ = events[at]
        if crowd & net.goal_crowd and (stand == nowhere or not crowds[stand] & net.goal_crowd):
            rows.append(row_back(events, at)[::-1])
        for sign in range(len(net.onward)):
            leads = arrows[stand][sign]
            fresh = moved(crowd, net.onward[sign]) & ~met[leads]
            if fresh:
                met[leads] |= fresh
                events.append((leads, fresh, at, sign))
        at += 1
    return rows


def row_of_arrows_alone(net, crowds, made):
    """A row that leads to an end along the arrows alone, or None.

    This may take very long from the one side and be done soon from the other one, so both go on by turns.
    """
    ends = [at for at in range(len(made)) if crowds[at] & net.goal_crowd]
    onward, backward = Onward(net, made, ends), Backward(net, made, ends)
    while onward.waiting and backward.waiting:
        if onward.goes_on() or backward.goes_on():
            return backward.row if onward.row is None else onward.row
    return None


def row_back(events, at):
    """The signs along which an event has come, the last one first."""
    row = []
    while events[at][2] is not None:
        row.append(events[at][3])
        at = events[at][2]
    return row


class Onward:
    """Goes on from the beginning, with stands of the reader and crowds of the net.

    A crowd need not be gone on from where a part of it has been beside the same stand. So small ones are
    taken first; they also are the ones that miss the goals.
    """

    def __init__(self, net, made, ends):
        self.net = net
        self.made = made
        self.end_stands = ends
        self.seen = {(0, net.begin_crowd): True}
        self.beside = [[] for _ in made]
        self.events = [(0, net.begin_crowd, None, None)]
        self.waiting = [(0, 0)]
        self.row = None

    def goes_on(self):
        """Take the next event; whether it has found a row."""
        _, at = heappop(self.waiting)
        stand, crowd, _, _ = self.events[at]
        if stand in self.end_stands and not crowd & self.net.goal_crowd:
            self.row = row_back(self.events, at)[::-1]
            return True
        steps = self.net.goals_of(crowd)
        for sign in range(len(steps)):
            goal = self.made[stand][sign]
            if goal is not None and self.is_new(goal, steps[sign]):
                heappush(self.waiting, (size_of(steps[sign]), len(self.events)))
                self.events.append((goal, steps[sign], at, sign))
        return False

    def is_new(self, stand, crowd):
        """Whether this has not been, nor a part of it."""
        if (stand, crowd) in self.seen:
            return False
        for other in self.beside[stand]:
            if not other & ~crowd:
                return False
        self.seen[stand, crowd] = True
        if len(self.beside[stand]) < MOST_COMPARED:
            self.beside[stand].append(crowd)
        return True


class Backward:
    """Goes back from the ends, with all stands of the reader, and of the net, from which one row leads to them.

    Nothing need be gone back from where there have been more stands of the reader beside fewer of the net.
    So few ones of the net are taken first.
    """

    def __init__(self, net, made, ends):
        self.net = net
        self.origins = [[0] * len(made) for _ in net.backward]
        for stand in range(len(made)):
            for sign in range(len(net.backward)):
                if made[stand][sign] is not None:
                    self.origins[sign][made[stand][sign]] |= 1 << stand
        self.seen = {(crowd_of(ends), net.goal_crowd): True}
        self.beside = []
        self.events = [(crowd_of(ends), net.goal_crowd, None, None)]
        self.waiting = [(0, 0)]
        self.row = None

    def goes_on(self):
        """Take the next event; whether it has found a row."""
        _, at = heappop(self.waiting)
        stands, crowd, _, _ = self.events[at]
        if stands & 1 and not crowd & self.net.begin_crowd:
            self.row = row_back(self.events, at)
            return True
        for sign in range(len(self.origins)):
            more = union(self.origins[sign], stands)
            step = moved(crowd, self.net.backward[sign])
            if more and self.is_new(more, step):
                heappush(self.waiting, (size_of(step), len(self.events)))
                self.events.append((more, step, at, sign))
        return False

    def is_new(self, stands, crowd):
        """Whether this has not been, nor more stands of the reader beside fewer of the net."""
        if (stands, crowd) in self.seen:
            return False
        for more, fewer in self.beside:
            if not stands & ~more and not fewer & ~crowd:
                return False
        self.seen[stands, crowd] = True
        if len(self.beside) < MOST_COMPARED:
            self.beside.append((stands, crowd))
        return True
