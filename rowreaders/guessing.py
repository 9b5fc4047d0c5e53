"""Least readers of nets.

To go through all crowds of a net could take for ever, also where the least reader is small, or has too many
stands anyway. So crowds count as alike until a test parts them: the crowd of all stands from which some row
leads to a goal. What comes out is a guess, which surely has not more stands than the least reader. It is
compared with the net; rows of which the two say otherwise bring more tests, until there is no such row.
"""

from rowreaders.comparing import rows_apart
from rowreaders.errors import TooMany
from rowreaders.limits import MOST_STANDS
from rowreaders.minimal import nothing
from rowreaders.nets import moved, trimmed
from rowreaders.readers import Reader

# More tests ahead of the first comparing take time, fewer ones are made good for by more comparing.
FIRST_TESTS = 400
FIRST_TESTS_IF_GREAT = 60
GREAT = 10000


def least_of_net(signs, size, arrows, begins, goals):
    """The least reader of all rows that lead from a begin to a goal; arrows has for each sign pairs of stands."""
    made, ends = net_parts(signs, trimmed(size, arrows, begins, goals), size, MOST_STANDS)
    return Reader(signs, made, ends)


def net_parts(signs, net, size, most):
    """The arrows and ends of the least reader of a net; TooMany(200) if it has more stands than most."""
    if not net.begin_crowd:
        return nothing(signs)
    tests, complete = first_tests(net, size)
    crowds, made = guessed(net, tests, most)
    while not complete:
        rows = rows_apart(net, crowds, made)
        if not rows:
            break
        tests = with_all_tests_of(net, tests, rows[0])
        for row in rows[1:]:
            tests = with_tests_of(net, crowds, made, tests, row)
        crowds, made = guessed(net, tests, most)
    return tuple(made), tuple([at for at in range(len(crowds)) if crowds[at] & net.goal_crowd])


def first_tests(net, size):
    """The tests of the first rows, and whether there are no others."""
    most = FIRST_TESTS if size <= GREAT else FIRST_TESTS_IF_GREAT
    tests = [net.goal_crowd]
    met = {net.goal_crowd}
    at = 0
    while at < len(tests) and len(tests) < most:
        for shifts in net.backward:
            test = moved(tests[at], shifts)
            if test and test not in met:
                met.add(test)
                tests.append(test)
        at += 1
    return tests, at == len(tests)


def rests_of(net, row):
    """The tests of the rests of a row, the shortest one first."""
    rests = [net.goal_crowd]
    for sign in row[::-1]:
        rests.append(moved(rests[-1], net.backward[sign]))
    return rests


def with_all_tests_of(net, tests, row):
    """The tests, and those of all rests of a row: a long row then parts as many crowds as it goes along."""
    known = {test: True for test in tests + rests_of(net, row)}
    return list(known)


def with_tests_of(net, crowds, made, tests, row):
    """The tests, and some more, by a row of which the net and the arrows say otherwise.

    Along the row, somewhere a crowd was taken for another one that the rest of the row parts from it.
    """
    rests = rests_of(net, row)
    more = list(tests)
    stand = 0
    for at in range(len(row)):
        goal = made[stand][row[at]]
        if goal is None:
            break
        rest = rests[len(row) - at - 1]
        crowd = net.goals_of(crowds[stand])[row[at]]
        if bool(crowd & rest) != bool(crowds[goal] & rest) and rest not in more:
            more.append(rest)
        stand = goal
    return more


def guessed(net, tests, most):
    """The crowds that the tests part, by first rows, and the arrows between them."""
    crowds = [net.begin_crowd]
    number = {told_by(tests, net.begin_crowd): 0}
    made = []
    while len(made) < len(crowds):
        goals = []
        steps = net.goals_of(crowds[len(made)])
        for goal in steps:
            told = told_by(tests, goal)
            if goal and told not in number:
                number[told] = len(crowds)
                crowds.append(goal)
            goals.append(number[told] if goal else None)
        # Crowds that a test parts are different stands of the least reader, too.
        if len(crowds) > most:
            raise TooMany(MOST_STANDS)
        made.append(tuple(goals))
    return crowds, made


def told_by(tests, crowd):
    """What the tests tell of a crowd."""
    return "".join(["1" if crowd & test else "0" for test in tests])
