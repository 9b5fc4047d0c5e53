"""What the tests share: small readers, all short rows, and how errors are looked at."""

import itertools
import random
import unittest

from rowreaders.guessers import Guesser
from rowreaders.readers import Reader

LETTERS = "abcdefgh"
EVEN = Reader(2, ((1, 0), (0, 1)), (0,))
AB = Reader(2, ((1, None), (None, 0)), (0,))


class Stranger:
    """An object of a class that the package does not know."""


# Things that are no reader, no guesser and no tuple that is right anywhere.
STRANGE = [None, True, False, [], [0], {}, {0: 1}, set(), b"a", b"", object(), Stranger(), Reader, Stranger,
           len, (None,), ((),), ("",), ("a", 0), "\n", "i", "A", "a ", -1, 10 ** 59, -10 ** 59]
NOT_ROWS = [thing for thing in STRANGE if thing != ""] + [0, 1, ("a",), ["a"], "ai", "a" * 201, "aA", EVEN]
NOT_INTEGERS = [None, True, False, "0", "", b"0", (0,), [0], {}, set(), object(), EVEN, int]
NOT_READERS = STRANGE + ["a", 0, 1, (2, ((1, 0), (0, 1)), (0,)), "Reader"]


class Case(unittest.TestCase):
    """A test case that also looks at the attributes of errors."""

    def fails(self, error, call, **attributes):
        """The call raises just this error, with this limit, or with the very thing that was given."""
        with self.assertRaises(error) as caught:
            call()
        self.assertIs(type(caught.exception), error)
        for name, value in attributes.items():
            if name == "limit":
                self.assertEqual(caught.exception.limit, value)
            else:
                self.assertIs(getattr(caught.exception, name), value)

    def fails_for_all(self, error, call, values):
        """The call raises this error for each of the values, and gives them back."""
        for value in values:
            with self.subTest(value=repr(value)[:60]):
                self.fails(error, lambda: call(value), given=value)

    def named(self, function, **arguments):
        """The function tells the same by place and by name, also with the names turned round."""
        by_place = function(*arguments.values())
        self.assertEqual(by_place, function(**arguments))
        self.assertEqual(by_place, function(**dict(reversed(list(arguments.items())))))
        return by_place


def rows_up_to(signs, length):
    """All rows up to this length, in the order of rows."""
    for many in range(length + 1):
        for row in itertools.product(LETTERS[:signs], repeat=many):
            yield "".join(row)


def row_order(row):
    return len(row), row


def goes(reader, stand, row):
    """Where a row leads from a stand, told in the plainest way."""
    for sign in row:
        if stand is None:
            return None
        stand = reader.arrows[stand][LETTERS.index(sign)]
    return stand


def is_yes(reader, row):
    return goes(reader, 0, row) in reader.ends


def yes_rows(reader, length):
    """The yes rows up to this length, in the order of rows."""
    return [row for row in rows_up_to(reader.signs, length) if is_yes(reader, row)]


def every_reader(signs, stands):
    """All readers of so many signs and stands."""
    goals = [None] + list(range(stands))
    for flat in itertools.product(goals, repeat=signs * stands):
        arrows = tuple(flat[at:at + signs] for at in range(0, len(flat), signs))
        for flags in itertools.product((False, True), repeat=stands):
            yield Reader(signs, arrows, tuple(at for at in range(stands) if flags[at]))


def some_reader(chance, signs, stands, nowhere=0.3, end=0.4):
    """A reader made by chance; chance is a random.Random with a seed, so the tests stay the same."""
    arrows = tuple(tuple(None if chance.random() < nowhere else chance.randrange(stands) for _ in range(signs))
                   for _ in range(stands))
    return Reader(signs, arrows, tuple(at for at in range(stands) if chance.random() < end))


def some_readers(seed, many, signs, most):
    """Readers made by chance, with up to so many stands, from full ones to rather empty ones."""
    chance = random.Random(seed)
    return [some_reader(chance, signs, chance.randint(1, most), chance.choice([0, 0.2, 0.5]))
            for _ in range(many)]


def some_guesser(chance):
    """A guesser made by chance, with rather few steps, often without any that has no sign."""
    signs, size = chance.choice([1, 1, 2, 2, 3]), chance.randint(1, 4)
    thick, empty = chance.choice([0.05, 0.1, 0.2, 0.4]), chance.choice([0, 0, 0.05, 0.2])
    steps = tuple((stand, sign, goal) for stand in range(size) for sign in ("", *LETTERS[:signs])
                  for goal in range(size) if chance.random() < (thick if sign else empty))
    begins = tuple(stand for stand in range(size) if chance.random() < 0.5)
    return Guesser(signs, size, begins, steps, tuple(stand for stand in range(size) if chance.random() < 0.5))


def some_guessers(seed, many):
    chance = random.Random(seed)
    return [some_guesser(chance) for _ in range(many)]


def can_end(reader, stand):
    """Whether some row leads from the stand to an end."""
    return any(is_met in reader.ends for is_met in met_from(reader, stand))


def met_from(reader, stand):
    """All stands to which rows lead from this one."""
    met = [stand]
    for here in met:
        met += [goal for goal in dict.fromkeys(reader.arrows[here]) if goal is not None and goal not in met]
    return met


def useful_plainly(reader):
    return [stand for stand in sorted(met_from(reader, 0)) if can_end(reader, stand)]


def least_plainly(reader):
    """The arrows and ends of the least reader, found by comparing stands again and again."""
    nowhere = len(reader)
    arrows = [[nowhere if goal is None else goal for goal in goals] for goals in reader.arrows]
    arrows.append([nowhere] * reader.signs)
    kind = [int(stand in reader.ends) for stand in range(nowhere + 1)]
    while True:
        told = [(kind[stand], tuple(kind[goal] for goal in arrows[stand])) for stand in range(nowhere + 1)]
        names = {}
        finer = [names.setdefault(each, len(names)) for each in told]
        if len(names) == len(set(kind)):
            break
        kind = finer
    if kind[0] == kind[nowhere]:
        return ((None,) * reader.signs,), ()
    stands = [0]
    made = []
    for stand in stands:
        goals = []
        for goal in arrows[stand]:
            if kind[goal] != kind[nowhere] and kind[goal] not in [kind[at] for at in stands]:
                stands.append(goal)
            numbers = [kind[at] for at in stands]
            goals.append(None if kind[goal] == kind[nowhere] else numbers.index(kind[goal]))
        made.append(tuple(goals))
    return tuple(made), tuple(at for at in range(len(stands)) if stands[at] in reader.ends)


def with_useless(reader):
    """The same yes rows, with a stand that nothing leads to, and one from which nothing leads to an end."""
    many = len(reader)
    arrows = [tuple(many + 1 if goal is None else goal for goal in goals) for goals in reader.arrows]
    arrows += [(0,) * reader.signs, (many + 1,) * (reader.signs - 1) + (None,)]
    return Reader(reader.signs, tuple(arrows), reader.ends + (many,))


def cycle(stands, signs=1):
    """Rows whose length can be divided by the number of stands."""
    return Reader(signs, tuple(((at + 1) % stands,) * signs for at in range(stands)), (0,))


def chain(lengths, signs=1):
    """Rows with one of these lengths, ascending."""
    last = lengths[-1]
    return Reader(signs, tuple((at + 1 if at < last else None,) * signs for at in range(last + 1)), lengths)
