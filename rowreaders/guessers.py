"""Guessers: from a stand a sign, or none at all, may lead to several stands, and a row may have many ways."""

from rowreaders.checks import ALPHABET, check_row, check_signs, is_ascending, is_between, is_row, is_stands
from rowreaders.crowds import spread, stands_of
from rowreaders.errors import InvalidEnds, InvalidNumber, InvalidSteps, NotAGuesser, TooMany
from rowreaders.limits import MOST_GUESSED
from rowreaders.guessing import least_of_net
from rowreaders.readers import check_reader
from rowreaders.strides import first_row_twice, growing_rows
from rowreaders.ways import Links, all_stands, number_of_ways


class Guesser:
    """Some signs and stands, those to begin at, steps between them, and those to come to."""

    def __init__(self, signs, size, begins, steps, goals):
        check_signs(signs)
        if not is_between(size, 1, MOST_GUESSED):
            raise InvalidNumber(size)
        if not is_stands(begins, size):
            raise InvalidEnds(begins)
        if not is_steps(steps, signs, size):
            raise InvalidSteps(steps)
        if not is_stands(goals, size):
            raise InvalidEnds(goals)
        self._signs = signs
        self._size = size
        self._begins = begins
        self._steps = steps
        self._goals = goals

    @property
    def signs(self):
        """How many signs the guesser has."""
        return self._signs

    @property
    def size(self):
        """How many stands the guesser has."""
        return self._size

    @property
    def begins(self):
        """The ascending tuple of the stands to begin at."""
        return self._begins

    @property
    def steps(self):
        """The ascending tuple of the steps: a stand, a sign or the empty string, and a stand."""
        return self._steps

    @property
    def goals(self):
        """The ascending tuple of the stands to come to."""
        return self._goals

    def __eq__(self, other):
        return (isinstance(other, Guesser) and self._signs == other._signs and self._size == other._size
                and self._begins == other._begins and self._steps == other._steps
                and self._goals == other._goals)


def is_steps(value, signs, size):
    """Whether a value is an ascending tuple of steps."""
    if not isinstance(value, tuple):
        return False
    return all([is_step(step, signs, size) for step in value]) and is_ascending(value)


def is_step(value, signs, size):
    """Whether a value is a triple of a stand, a sign or the empty string, and a stand."""
    if not isinstance(value, tuple) or len(value) != 3:
        return False
    stand, sign, goal = value
    return is_between(stand, 0, size - 1) and is_row(sign, signs, 1) and is_between(goal, 0, size - 1)


def check_guesser(guesser):
    """Let only a guesser pass."""
    if not isinstance(guesser, Guesser):
        raise NotAGuesser(guesser)


def reader_from(guesser):
    """The reader of the yes rows of the guesser."""
    check_guesser(guesser)
    links = Links(guesser, all_stands(guesser))
    arrows = [[(stand, goal) for stand in range(guesser.size)
               for goal in stands_of(spread(links.empty, signed[stand]))] for signed in links.signed]
    begins = stands_of(spread(links.empty, links.first))
    return least_of_net(guesser.signs, guesser.size, arrows, begins, guesser.goals)


def guesser_of(reader):
    """The guesser with the stands, arrows and ends of the reader."""
    check_reader(reader)
    if len(reader) > MOST_GUESSED:
        raise TooMany(MOST_GUESSED)
    steps = []
    for stand in range(len(reader)):
        for sign in range(reader.signs):
            if reader.arrows[stand][sign] is not None:
                steps.append((stand, ALPHABET[sign], reader.arrows[stand][sign]))
    return Guesser(reader.signs, len(reader), (0,), tuple(steps), reader.ends)


def turned(guesser):
    """The guesser with begins and goals exchanged, and each step turned round."""
    check_guesser(guesser)
    steps = sorted([(goal, sign, stand) for stand, sign, goal in guesser.steps])
    return Guesser(guesser.signs, guesser.size, guesser.goals, tuple(steps), guesser.begins)


def ways_of(guesser, row):
    """How many ways the row has; None if there are more than any number."""
    check_guesser(guesser)
    check_row(guesser.signs, row)
    return number_of_ways(guesser, row)


def first_twice(guesser):
    """The first row that has two ways at least, or None."""
    check_guesser(guesser)
    return first_row_twice(guesser)


def is_bounded(guesser):
    """Whether there is a number that the number of ways of no row passes."""
    check_guesser(guesser)
    return growing_rows(guesser) is None


def growing(guesser):
    """None if the guesser is bounded; otherwise any front, middle and tail that show that it is not.

    The row of the front, n times the middle, and the tail has at least n ways, or more than any number.
    """
    check_guesser(guesser)
    return growing_rows(guesser)
