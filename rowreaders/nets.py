"""Least readers of nets: of arrows that may lead to many stands at once, with many stands to begin at.

Some stands of a net together, a crowd, are an integer with the bit of each of them set. To go through all
crowds could take for ever, also where the least reader is small, or has too many stands anyway. So crowds
count as alike until a test parts them: the crowd of all stands from which some row leads to a goal. What
comes out is a reader that surely has not more stands than the least one. It is compared with the net; a row
of which the two say otherwise brings more tests, until there is no such row.
"""

from heapq import heappop, heappush

from rowreaders.crowds import crowd_of, size_of
from rowreaders.errors import TooMany
from rowreaders.limits import MOST_STANDS
from rowreaders.minimal import nothing, reached
from rowreaders.readers import Reader

# More tests ahead of the first comparing take time, fewer ones are made good for by more comparing.
FIRST_TESTS = 400
FIRST_TESTS_IF_GREAT = 60
GREAT = 2000
MOST_COMPARED = 200


class Net:
    """For each sign its arrows, as pairs of stands; some stands are begins, some are goals."""

    def __init__(self, arrows, begins, goals):
        self.begin_crowd = crowd_of(begins)
        self.goal_crowd = crowd_of(goals)
        self.onward = [shifts_of(pairs) for pairs in arrows]
        self.backward = [shifts_of([(goal, stand) for stand, goal in pairs]) for pairs in arrows]
        self.known = {}

    def goals_of(self, crowd):
        """The crowds to which the signs lead this one."""
        if crowd not in self.known:
            self.known[crowd] = [moved(crowd, shifts) for shifts in self.onward]
        return self.known[crowd]


def shifts_of(pairs):
    """Arrows as pairs (crowd, shift): each stand of the crowd has an arrow that leads that far.

    Many arrows lead equally far, so a crowd is moved by few shifts, however many stands it has.
    """
    begins = {}
    for stand, goal in pairs:
        begins.setdefault(goal - stand, []).append(stand)
    return [(crowd_of(begins[shift]), shift) for shift in sorted(list(begins))]


def moved(crowd, shifts):
    """The crowd to which arrows lead a crowd."""
    goals = 0
    for begins, shift in shifts:
        part = crowd & begins
        if part and shift >= 0:
            goals |= part << shift
        elif part:
            goals |= part >> -shift
    return goals


def least_of_net(signs, size, arrows, begins, goals):
    """The least reader of all rows that lead from a begin to a goal along arrows."""
    net = trimmed(size, arrows, begins, goals)
    if not net.begin_crowd:
        made, ends = nothing(signs)
        return Reader(signs, made, ends)
    tests, complete = first_tests(net, size)
    crowds, made = guessed(net, tests)
    while not complete:
        row = row_apart(net, crowds, made)
        if row is None:
            break
        tests = with_tests_of(net, crowds, made, tests, row)
        crowds, made = guessed(net, tests)
    ends = tuple([at for at in range(len(crowds)) if crowds[at] & net.goal_crowd])
    return Reader(signs, tuple(made), ends)


def trimmed(size, arrows, begins, goals):
    """The net without the stands that are not met on any way from a begin to a goal."""
    onward = [[] for _ in range(size)]
    backward = [[] for _ in range(size)]
    for pairs in arrows:
        for stand, goal in pairs:
            onward[stand].append(goal)
            backward[goal].append(stand)
    fore = reached(onward, begins)
    back = reached(backward, goals)
    number = {}
    for stand in range(size):
        if fore[stand] and back[stand]:
            number[stand] = len(number)
    kept = [[(number[stand], number[goal]) for stand, goal in pairs if stand in number and goal in number]
            for pairs in arrows]
    return Net(kept, [number[stand] for stand in begins if stand in number],
               [number[stand] for stand in goals if stand in number])


def first_tests(net, size):
    """The tests of the first rows, and whether there are no others."""
    most = FIRST_TESTS if size <= GREAT else FIRST_TESTS_IF_GREAT
    tests = [net.goal_crowd]
    met = {net.goal_crowd}
    at = 0
    while at < len(tests) and len(tests) < most:
        for shifts in net.backward:
            test = moved(tests[at], shifts)
            if test and test not in met:
                met.add(test)
                tests.append(test)
        at += 1
    return tests, at == len(tests)


def with_tests_of(net, crowds, made, tests, row):
    """The tests, and some more, by a row of which the net and the arrows say otherwise.

    Along the row, somewhere a crowd was taken for another one that the rest of the row parts from it.
    """
    rests = [net.goal_crowd]
    for sign in row[::-1]:
        rests.append(moved(rests[-1], net.backward[sign]))
    more = list(tests)
    stand = 0
    for at in range(len(row)):
        goal = made[stand][row[at]]
        if goal is None:
            break
        rest = rests[len(row) - at - 1]
        crowd = net.goals_of(crowds[stand])[row[at]]
        if bool(crowd & rest) != bool(crowds[goal] & rest) and rest not in more:
            more.append(rest)
        stand = goal
    return more


def guessed(net, tests):
    """The crowds that the tests part, by first rows, and the arrows between them."""
    crowds = [net.begin_crowd]
    number = {told_by(tests, net.begin_crowd): 0}
    made = []
    while len(made) < len(crowds):
        goals = []
        steps = net.goals_of(crowds[len(made)])
        for goal in steps:
            told = told_by(tests, goal)
            if goal and told not in number:
                number[told] = len(crowds)
                crowds.append(goal)
            goals.append(number[told] if goal else None)
        # Crowds that a test parts are different stands of the least reader, too.
        if len(crowds) > MOST_STANDS:
            raise TooMany(MOST_STANDS)
        made.append(tuple(goals))
    return crowds, made


def told_by(tests, crowd):
    """What the tests tell of a crowd."""
    return "".join(["1" if crowd & test else "0" for test in tests])


def row_apart(net, crowds, made):
    """A row, told as numbers of signs, of which the net and the arrows say otherwise, or None."""
    row = row_of_net_alone(net, crowds, made)
    return row_of_arrows_alone(net, crowds, made) if row is None else row


def row_of_net_alone(net, crowds, made):
    """A row that leads to a goal in the net alone, or None.

    Of each stand that the arrows come to it is enough to go on once from each stand of the net beside it.
    """
    nowhere = len(made)
    arrows = [[nowhere if goal is None else goal for goal in goals] for goals in made]
    arrows.append([nowhere] * len(net.onward))
    met = [0] * (nowhere + 1)
    met[0] = net.begin_crowd
    events = [(0, net.begin_crowd, None, None)]
    at = 0
    while at < len(events):
        stand, crowd, _, _ = events[at]
        if crowd & net.goal_crowd and (stand == nowhere or not crowds[stand] & net.goal_crowd):
            return row_to(events, at)
        for sign in range(len(net.onward)):
            goal = arrows[stand][sign]
            fresh = moved(crowd, net.onward[sign]) & ~met[goal]
            if fresh:
                met[goal] |= fresh
                events.append((goal, fresh, at, sign))
        at += 1
    return None


def row_of_arrows_alone(net, crowds, made):
    """A row that leads to an end along the arrows alone, or None.

    A crowd need not be gone on from where a part of it has been beside the same stand. So small ones are
    taken first; they also are the ones that miss the goals.
    """
    seen = {(0, net.begin_crowd)}
    beside = [[] for _ in made]
    events = [(0, net.begin_crowd, None, None)]
    waiting = [(0, 0)]
    while waiting:
        _, at = heappop(waiting)
        stand, crowd, _, _ = events[at]
        if crowds[stand] & net.goal_crowd and not crowd & net.goal_crowd:
            return row_to(events, at)
        for sign in range(len(net.onward)):
            goal = made[stand][sign]
            step = net.goals_of(crowd)[sign]
            if goal is None or (goal, step) in seen or is_covered(beside[goal], step):
                continue
            seen.add((goal, step))
            if len(beside[goal]) < MOST_COMPARED:
                beside[goal].append(step)
            heappush(waiting, (size_of(step), len(events)))
            events.append((goal, step, at, sign))
    return None


def is_covered(crowds, crowd):
    """Whether one of the crowds is a part of the crowd."""
    for other in crowds:
        if not other & ~crowd:
            return True
    return False


def row_to(events, at):
    """The numbers of the signs along which an event has come."""
    row = []
    while events[at][2] is not None:
        row.append(events[at][3])
        at = events[at][2]
    return row[::-1]
