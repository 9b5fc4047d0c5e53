"""rowreaders.duels."""

import functools
import itertools
import random

from helpers import AB, EVEN, LETTERS, NOT_INTEGERS, NOT_READERS, STRANGE, Case, can_end, chain, cycle, every_reader
from helpers import some_reader

from rowreaders import duels
from rowreaders.duels import barring, can_keep, can_write, least_turns, plan, turns_of, winning
from rowreaders.errors import InvalidNumber, InvalidPlan, InvalidSigns, NotAReader
from rowreaders.readers import Reader, all_rows, no_rows, only

MET = Reader(2, ((1, 2), (3, 2), (1, 3), (3, 3)), (3,))
WITH_LOTS = (least_turns, winning, can_keep, plan, barring)
NOT_LOTS = ["", "ba", "aa", "aab", "c", "abc", "ac", "A", " ", "a b", ("a",), ["a"], b"a", {"a"}, 0, 1, EVEN]
NOT_LOTS += [thing for thing in STRANGE if thing != ""]


def lots(signs):
    """All lots of so many signs."""
    return ["".join(lot) for many in range(1, signs + 1) for lot in itertools.combinations(LETTERS[:signs], many)]


def some_duels(seed, many):
    chance = random.Random(seed)
    for _ in range(many):
        signs = chance.choice([1, 2, 2, 3])
        reader = some_reader(chance, signs, chance.randint(1, 5), chance.choice([0, 0.1, 0.3]),
                             chance.choice([0.1, 0.2, 0.4]))
        yield reader, chance.choice(lots(signs)), chance.choice(lots(signs))


class Plays:
    """All plays of a duel, gone through sign by sign."""

    def __init__(self, reader, first, second):
        self.reader = reader
        self.lots = (first, second)
        self.becomes = functools.cache(self.becomes)
        self.writes = functools.cache(self.writes)
        self.keeps = functools.cache(self.keeps)
        self.most = 2 * len(reader)

    def goal(self, stand, sign):
        return None if stand is None else self.reader.arrows[stand][LETTERS.index(sign)]

    def choose(self, turn, stand, told):
        """What the one whose turn it is brings about: the first one wants it, the second one does not."""
        outcomes = [told(self.goal(stand, sign), 1 - turn) for sign in self.lots[turn]]
        return all(outcomes) if turn else any(outcomes)

    def becomes(self, stand, turn, left):
        """Whether the first one makes the row a yes row with so many signs at most."""
        if stand in self.reader.ends:
            return True
        if stand is None or not left:
            return False
        return self.choose(turn, stand, lambda goal, other: self.becomes(goal, other, left - 1))

    def writes(self, stand, turn, left):
        """Whether the first one makes the row a yes row with just so many signs."""
        if not left:
            return stand in self.reader.ends
        return self.choose(turn, stand, lambda goal, other: self.writes(goal, other, left - 1))

    def keeps(self, stand, turn, left):
        """Whether the first one keeps the row a front for so many signs more."""
        if stand is None or not can_end(self.reader, stand):
            return False
        return not left or self.choose(turn, stand, lambda goal, other: self.keeps(goal, other, left - 1))

    def turns_by(self, plans, stand=0, turn=0, met=()):
        """The greatest number of signs until the row is a yes row by the plans of both; None if it may never be."""
        if stand in self.reader.ends:
            return 0
        if stand is None or (stand, turn) in met:
            return None
        planned = plans[turn] and plans[turn][stand]
        turns = [self.turns_by(plans, self.goal(stand, sign), 1 - turn, met + ((stand, turn),))
                 for sign in planned or self.lots[turn]]
        return None if None in turns else max(turns) + 1

    def ever(self, plans):
        """Whether the row may become a yes row by the plans of both."""
        met = [(0, 0)]
        for stand, turn in met:
            if stand in self.reader.ends:
                return True
            planned = plans[turn] and plans[turn][stand]
            for sign in planned or self.lots[turn]:
                goal = (self.goal(stand, sign), 1 - turn)
                if goal[0] is not None and goal not in met:
                    met.append(goal)
        return False


def small_duels():
    """Each duel on all readers of one sign and three stands and of two signs and two stands, and on others."""
    for reader in every_reader(1, 3):
        yield reader, "a", "a"
    for reader in list(every_reader(2, 2))[::3]:
        for first in lots(2):
            for second in lots(2):
                yield reader, first, second
    yield from some_duels(61, 500)


class PlainTest(Case):
    def test_becoming_a_yes_row(self):
        for reader, first, second in small_duels():
            plays = Plays(reader, first, second)
            turns = [many for many in range(plays.most + 1) if plays.becomes(0, 0, many)]
            self.assertEqual(least_turns(reader, first, second), turns[0] if turns else None)
            stands = range(len(reader))
            self.assertEqual(winning(reader, first, second),
                             tuple(tuple(stand for stand in stands if plays.becomes(stand, turn, plays.most))
                                   for turn in (0, 1)))

    def test_can_write(self):
        for reader, first, second in small_duels():
            plays = Plays(reader, first, second)
            for length in range(7):
                self.assertIs(can_write(reader, first, second, length), plays.writes(0, 0, length))

    def test_can_keep(self):
        for reader, first, second in small_duels():
            plays = Plays(reader, first, second)
            self.assertIs(can_keep(reader, first, second), plays.keeps(0, 0, plays.most + 1))

    def test_plans(self):
        kinds = [0, 0]
        for reader, first, second in small_duels():
            plays = Plays(reader, first, second)
            turns = least_turns(reader, first, second)
            made, bars = plan(reader, first, second), barring(reader, first, second)
            self.assertIs(made is None, turns is None)
            self.assertIs(bars is None, turns is not None)
            kinds[turns is None] += 1
            if made is not None:
                self.assert_plan(made, reader, first)
                self.assertEqual(plays.turns_by((made, None)), turns)
                self.assertEqual(turns_of(reader, first, second, made), turns)
            else:
                self.assert_plan(bars, reader, second)
                self.assertIs(plays.ever((None, bars)), False)
        self.assertGreater(min(kinds), 100)

    def assert_plan(self, made, reader, lot):
        self.assertIsInstance(made, tuple)
        self.assertEqual(len(made), len(reader))
        for sign in made:
            self.assertTrue(sign is None or len(sign) == 1 and sign in lot)

    def test_turns_of(self):
        chance = random.Random(62)
        for reader, first, second in some_duels(63, 400):
            plays = Plays(reader, first, second)
            for _ in range(4):
                made = tuple(chance.choice([None, *first]) for _ in range(len(reader)))
                self.assertEqual(turns_of(reader, first, second, made), plays.turns_by((made, None)))


class EdgesTest(Case):
    def test_by_name(self):
        self.assertEqual(self.named(least_turns, reader=MET, first="ab", second="ab"), 3)
        self.assertEqual(self.named(winning, reader=MET, first="a", second="b"), ((1, 3), (2, 3)))
        self.assertIs(self.named(can_keep, reader=MET, first="a", second="b"), True)
        self.assertIs(self.named(can_write, reader=MET, first="ab", second="ab", length=3), True)
        self.assertIsNone(self.named(plan, reader=MET, first="a", second="b"))
        self.assertIsNone(self.named(barring, reader=MET, first="ab", second="ab"))
        self.assertEqual(self.named(turns_of, reader=MET, first="ab", second="ab", plan=("a", "a", "b", None)), 3)
        for name in ("can_write", "least_turns", "winning", "can_keep", "plan", "barring", "turns_of"):
            self.assertEqual(getattr(duels, name).__module__, "rowreaders.duels")

    def test_the_empty_row(self):
        for reader in (all_rows(2), EVEN, AB):
            self.assertEqual(least_turns(reader, "a", "b"), 0)
            self.assertIsNone(barring(reader, "a", "b"))
            self.assertEqual(len(plan(reader, "a", "b")), len(reader))
            self.assertEqual(turns_of(reader, "a", "b", (None,) * len(reader)), 0)
            self.assertIs(can_write(reader, "a", "b", 0), True)
        self.assertIs(can_write(only(2, ("a",)), "a", "b", 0), False)

    def test_no_yes_rows(self):
        nothing = no_rows(3)
        self.assertIsNone(least_turns(nothing, "abc", "a"))
        self.assertEqual(winning(nothing, "abc", "a"), ((), ()))
        self.assertIs(can_keep(nothing, "abc", "a"), False)
        self.assertIsNone(plan(nothing, "abc", "a"))
        self.assertIsNone(turns_of(nothing, "abc", "a", ("c",)))
        self.assertEqual(len(barring(nothing, "abc", "a")), 1)

    def test_lots_of_one_sign_and_of_all(self):
        reader = only(8, ("aha", "ahh"))
        self.assertEqual(least_turns(reader, "a", "h"), 3)
        self.assertEqual(least_turns(reader, "abcdefgh", "h"), 3)
        self.assertIsNone(least_turns(reader, "abcdefgh", "abcdefgh"))
        self.assertIsNone(least_turns(reader, "b", "h"))

    def test_long_duels(self):
        last = chain((199,))
        self.assertEqual(least_turns(last, "a", "a"), 199)
        self.assertEqual(turns_of(last, "a", "a", (None,) * 200), 199)
        self.assertIs(can_write(last, "a", "a", 199), True)
        self.assertIs(can_write(last, "a", "a", 200), False)
        self.assertIs(can_keep(last, "a", "a"), False)
        self.assertIs(can_write(cycle(200, 8), "abcdefgh", "abcdefgh", 200), True)
        self.assertIs(can_keep(cycle(200, 8), "h", "abcdefgh"), True)

    def test_more_turns_than_stands(self):
        # The first one goes round a cycle of odd length until the turns have changed.
        reader = Reader(2, ((1, 1), (2, 2), (0, 3), (None, None)), (3,))
        self.assertEqual(least_turns(reader, "ab", "a"), 3)
        self.assertEqual(least_turns(Reader(2, ((1, 1), (0, 2), (None, None)), (2,)), "ab", "ab"), None)
        around = Reader(2, ((1, 1), (2, 3), (0, 0), (None, None)), (3,))
        self.assertEqual(least_turns(around, "ab", "a"), 5)
        self.assertEqual(turns_of(around, "ab", "a", (None, "b", None, None)), 5)
        self.assertIsNone(turns_of(around, "ab", "a", (None, None, None, None)))

    def test_useless_stands_count_in_winning(self):
        reader = Reader(1, ((None,), (2,), (None,)), (2,))
        self.assertEqual(winning(reader, "a", "a"), ((1, 2), (1, 2)))


class WrongTest(Case):
    def test_readers(self):
        for call in WITH_LOTS:
            self.fails_for_all(NotAReader, lambda given: call(given, "", ""), NOT_READERS)
        self.fails_for_all(NotAReader, lambda given: can_write(given, "", "", -1), NOT_READERS)
        self.fails_for_all(NotAReader, lambda given: turns_of(given, "", "", ()), NOT_READERS)

    def test_lots(self):
        for call in WITH_LOTS:
            self.fails_for_all(InvalidSigns, lambda given: call(EVEN, given, 5), NOT_LOTS)
            self.fails_for_all(InvalidSigns, lambda given: call(EVEN, "a", given), NOT_LOTS)
        self.fails_for_all(InvalidSigns, lambda given: can_write(EVEN, given, 5, -1), NOT_LOTS)
        self.fails_for_all(InvalidSigns, lambda given: can_write(EVEN, "ab", given, -1), NOT_LOTS)
        self.fails_for_all(InvalidSigns, lambda given: turns_of(EVEN, given, 5, ()), NOT_LOTS)
        self.fails_for_all(InvalidSigns, lambda given: turns_of(EVEN, "ab", given, ()), NOT_LOTS)
        self.fails(InvalidSigns, lambda: least_turns(all_rows(1), "a", "b"), given="b")

    def test_lengths(self):
        wrong = NOT_INTEGERS + [-1, 201, 10 ** 59, -10 ** 59]
        self.fails_for_all(InvalidNumber, lambda given: can_write(EVEN, "a", "b", given), wrong)

    def test_wrong_plans(self):
        wrong = [(), ("a",), ("a", "a", "a"), ["a", "a"], "aa", ("a", "b"), ("b", None), ("a", "ab"), ("a", ""), ("a", 0),
                 ("a", True), ("a", "A"), (None,), (None, ("a",)), ("a", b"a"), {"a", "b"}, {"a": 1, "b": 2}, None, EVEN]
        self.fails_for_all(InvalidPlan, lambda given: turns_of(EVEN, "a", "ab", given), wrong + STRANGE)
        self.fails(InvalidPlan, lambda: turns_of(all_rows(3), "ac", "ac", ("ac",)))
        self.fails(InvalidPlan, lambda: turns_of(all_rows(3), "ac", "b", ("b",)))
        self.assertEqual(turns_of(EVEN, "a", "ab", (None, "a")), 0)
