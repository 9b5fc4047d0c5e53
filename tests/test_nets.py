"""Least readers of nets against going through all their crowds, also where few tests make for much comparing."""

import random

from helpers import LETTERS, Case, is_yes, some_reader

from rowreaders import guessing
from rowreaders.errors import TooMany
from rowreaders.guessing import least_of_net
from rowreaders.likeness import least
from rowreaders.making import shuffled
from rowreaders.minimal import least_parts
from rowreaders.readers import Reader


def by_all_crowds(signs, arrows, begins, goals):
    """The arrows and ends of the least reader, and how many crowds there are."""
    crowds = [frozenset(begins)]
    number = {crowds[0]: 0}
    made = []
    for crowd in crowds:
        row = []
        for sign in range(signs):
            goal = frozenset(two for one, two in arrows[sign] if one in crowd)
            if goal not in number:
                number[goal] = len(crowds)
                crowds.append(goal)
            row.append(number[goal])
        made.append(row)
    ends = [at for at in range(len(crowds)) if crowds[at] & set(goals)]
    return least_parts(signs, made, ends, 10 ** 9)


def some_net(chance):
    """A net made by chance: thin ones, and ones that are readers turned round, which have many crowds."""
    signs, size = chance.randint(1, 3), chance.randint(1, 10)
    if chance.random() < 0.5:
        thick = chance.choice([0.05, 0.1, 0.15, 0.3])
        arrows = [[(one, two) for one in range(size) for two in range(size) if chance.random() < thick]
                  for _ in range(signs)]
    else:
        arrows = [[(chance.randrange(size), two) for two in range(size)] for _ in range(signs)]
    stands = range(size)
    return (signs, size, arrows, [at for at in stands if chance.random() < 0.4],
            [at for at in stands if chance.random() < 0.4])


class NetTest(Case):
    def setUp(self):
        self.first_tests = guessing.FIRST_TESTS

    def tearDown(self):
        guessing.FIRST_TESTS = self.first_tests

    def test_against_all_crowds(self):
        chance = random.Random(71)
        great = 0
        for at in range(900):
            guessing.FIRST_TESTS = (1, 4, 400)[at % 3]
            signs, size, arrows, begins, goals = some_net(chance)
            made, ends = by_all_crowds(signs, arrows, begins, goals)
            if len(made) > 200:
                self.fails(TooMany, lambda: least_of_net(signs, size, arrows, begins, goals), limit=200)
            else:
                self.assertEqual(least_of_net(signs, size, arrows, begins, goals), Reader(signs, made, ends))
            great += len(made) > 20
        self.assertGreater(great, 60)

    def test_few_stands_out_of_many_crowds(self):
        for signs, stands, seed, many in ((2, 12, 18, 136), (4, 10, 8, 76), (3, 12, 9, 98), (4, 10, 19, None)):
            chance = random.Random(seed)
            one, two = some_reader(chance, signs, stands, 0), some_reader(chance, signs, stands, 0)
            if many is None:
                self.fails(TooMany, lambda: shuffled(one, two), limit=200)
                continue
            made = shuffled(one, two)
            self.assertEqual((len(made), least(made)), (many, made))
            for row in self.rows(chance, signs):
                self.assertEqual(is_yes(made, row), is_shuffled(one, two, row))

    def rows(self, chance, signs):
        return ["".join(chance.choice(LETTERS[:signs]) for _ in range(chance.randint(0, 9))) for _ in range(300)]


def is_shuffled(one, two, row):
    """Whether a row is shuffled of yes rows, by all pairs of stands that its fronts can lead both readers to."""
    pairs = {(0, 0)}
    for sign in row:
        at = LETTERS.index(sign)
        pairs = {(one.arrows[here][at], there) for here, there in pairs} | {
            (here, two.arrows[there][at]) for here, there in pairs}
    return any(here in one.ends and there in two.ends for here, there in pairs)
