"""rowreaders.guessers."""

import random

from helpers import AB, EVEN, LETTERS, NOT_INTEGERS, NOT_READERS, NOT_ROWS, STRANGE, Case, chain, cycle, every_reader
from helpers import is_yes, least_plainly, rows_up_to, some_guessers, some_readers

from rowreaders import guessers
from rowreaders.errors import InvalidEnds, InvalidNumber, InvalidRow, InvalidSigns, InvalidSteps
from rowreaders.errors import NotAGuesser, NotAReader, TooMany
from rowreaders.guessers import Guesser, first_twice, growing, guesser_of, is_bounded, reader_from, turned, ways_of
from rowreaders.likeness import least
from rowreaders.making import mirrored
from rowreaders.readers import Reader, all_rows, no_rows

MARKS = Guesser(2, 2, (0,), ((0, "a", 0), (0, "a", 1), (0, "b", 0), (1, "a", 1), (1, "b", 1)), (1,))
NOT_GUESSERS = NOT_READERS + [EVEN, AB, (2, 1, (0,), (), (0,))]


def ways_with(guesser, row, most):
    """How many ways with at most so many steps without a sign ahead of each sign, and at the end."""
    def led(numbers, sign):
        sums = [0] * guesser.size
        for stand, other, goal in guesser.steps:
            if other == sign:
                sums[goal] += numbers[stand]
        return sums

    def led_without(numbers):
        sums = list(numbers)
        for _ in range(most):
            numbers = led(numbers, "")
            sums = [one + other for one, other in zip(sums, numbers)]
        return sums

    numbers = led_without([int(stand in guesser.begins) for stand in range(guesser.size)])
    for sign in row:
        numbers = led_without(led(numbers, sign))
    return sum(numbers[goal] for goal in guesser.goals)


def ways_plainly(guesser, row):
    """The number of ways, None if rounds without signs make more and more of them."""
    few = ways_with(guesser, row, guesser.size)
    return few if few == ways_with(guesser, row, 2 * guesser.size + 1) else None


class GuesserTest(Case):
    def test_what_is_made_is_told_again(self):
        steps = ((0, "", 1), (0, "a", 0), (0, "a", 1), (1, "b", 0))
        made = self.named(Guesser, signs=2, size=3, begins=(0, 2), steps=steps, goals=(1,))
        self.assertEqual((made.signs, made.size, made.begins, made.steps, made.goals), (2, 3, (0, 2), steps, (1,)))
        self.assertTrue(made)
        for name in ("signs", "size", "begins", "steps", "goals"):
            self.assertIsInstance(vars(Guesser)[name], property)
        self.assertIn("__eq__", vars(Guesser))
        for name in ("Guesser", "reader_from", "guesser_of", "turned", "ways_of", "first_twice", "is_bounded",
                     "growing"):
            self.assertEqual(getattr(guessers, name).__module__, "rowreaders.guessers")

    def test_equality(self):
        made = Guesser(2, 2, (0,), ((0, "a", 1),), (1,))
        self.assertTrue(made == Guesser(2, 2, (0,), ((0, "a", 1),), (1,)))
        self.assertFalse(made != Guesser(2, 2, (0,), ((0, "a", 1),), (1,)))
        for other in (Guesser(3, 2, (0,), ((0, "a", 1),), (1,)), Guesser(2, 3, (0,), ((0, "a", 1),), (1,)),
                      Guesser(2, 2, (1,), ((0, "a", 1),), (1,)), Guesser(2, 2, (0,), ((0, "b", 1),), (1,)),
                      Guesser(2, 2, (0,), ((0, "a", 1),), (0,)), EVEN, None, (2, 2), "guesser"):
            self.assertFalse(made == other)
            self.assertTrue(made != other)
        self.assertFalse(EVEN == guesser_of(EVEN))
        self.assertTrue(EVEN != guesser_of(EVEN))

    def test_wrong_signs_and_size(self):
        self.fails_for_all(InvalidSigns, lambda given: Guesser(given, 1, (), (), ()), NOT_INTEGERS + [0, 9, -1])
        for size in (1, 12):
            self.assertEqual(Guesser(1, size, (size - 1,), (), (0,)).size, size)
        for signs in (1, 8):
            self.assertEqual(Guesser(signs, 1, (), ((0, LETTERS[signs - 1], 0),), ()).signs, signs)
        wrong = NOT_INTEGERS + [0, 13, -1, 10 ** 59, -10 ** 59]
        self.fails_for_all(InvalidNumber, lambda given: Guesser(1, given, (), (), ()), wrong)

    def test_wrong_begins_and_goals(self):
        wrong = [[0], (1, 0), (0, 0), (2,), (-1,), (True,), (0, True), ("0",), ((0,),), 0, {0}, {0: 0}, EVEN]
        wrong += [thing for thing in STRANGE if thing != ()]
        self.fails_for_all(InvalidEnds, lambda given: Guesser(1, 2, given, (), ()), wrong)
        self.fails_for_all(InvalidEnds, lambda given: Guesser(1, 2, (), (), given), wrong)

    def test_wrong_steps(self):
        wrong = [[(0, "a", 0)], ([0, "a", 0],), ((0, "a"),), ((0, "a", 0, 0),), ((0, "c", 0),), ((0, "ab", 0),),
                 ((0, "A", 0),), ((2, "a", 0),), ((0, "a", 2),), ((-1, "a", 0),), ((0, None, 0),), ((0, 0, 0),),
                 ((True, "a", 0),), ((0, "a", False),), ((0, "a", 0), (0, "a", 0)), ((0, "b", 0), (0, "a", 0)),
                 ((1, "a", 0), (0, "a", 0)), ((0, "a", 1), (0, "a", 0)), ((0, "a", 0), (0, "", 0)), "a", ("a",),
                 ((0, b"a", 0),), ((0, ["a"], 0),), (0, "a", 0), ((0, "a", 0), None), ((0, "a", (0,)),), EVEN]
        wrong += [thing for thing in STRANGE if thing != ()]
        self.fails_for_all(InvalidSteps, lambda given: Guesser(2, 2, (), given, ()), wrong)

    def test_the_first_error_that_is_due(self):
        self.fails(InvalidSigns, lambda: Guesser("s", "n", "b", "t", "g"), given="s")
        self.fails(InvalidNumber, lambda: Guesser(1, "n", "b", "t", "g"), given="n")
        self.fails(InvalidEnds, lambda: Guesser(1, 1, "b", "t", "g"), given="b")
        self.fails(InvalidSteps, lambda: Guesser(1, 1, (), "t", "g"), given="t")
        self.fails(InvalidEnds, lambda: Guesser(1, 1, (), (), "g"), given="g")
        self.fails(InvalidSteps, lambda: Guesser(goals="g", steps="t", begins=(), size=1, signs=1), given="t")


class ReaderFromTest(Case):
    def test_against_all_ways(self):
        for guesser in some_guessers(41, 250):
            made = reader_from(guesser)
            for row in rows_up_to(guesser.signs, 4):
                self.assertIs(is_yes(made, row), ways_with(guesser, row, guesser.size) > 0)
            self.assertEqual((made.arrows, made.ends), least_plainly(made))

    def test_edges(self):
        self.assertEqual(self.named(reader_from, guesser=MARKS), Reader(2, ((1, 0), (1, 1)), (1,)))
        self.assertEqual(reader_from(Guesser(3, 2, (0,), ((0, "a", 1),), ())), no_rows(3))
        self.assertEqual(reader_from(Guesser(3, 2, (), ((0, "a", 1),), (1,))), no_rows(3))
        round_about = Guesser(1, 3, (0,), ((0, "", 1), (1, "", 2), (2, "", 0), (2, "a", 2)), (1,))
        self.assertEqual(reader_from(round_about), all_rows(1))

    def test_too_many_stands(self):
        # The sign so many places ahead of the end is an a: one has to know that many signs.
        for places, stands in ((7, 128), (8, 256)):
            steps = [(0, "a", 0), (0, "a", 1), (0, "b", 0)]
            steps += [(at, sign, at + 1) for at in range(1, places) for sign in "ab"]
            guesser = Guesser(2, places + 1, (0,), tuple(steps), (places,))
            if stands <= 200:
                self.assertEqual(len(reader_from(guesser)), stands)
            else:
                self.fails(TooMany, lambda: reader_from(guesser), limit=200)

    def test_all_stands_at_once(self):
        every = tuple((stand, sign, goal) for stand in range(12) for sign in ("", *LETTERS) for goal in range(12))
        self.assertEqual(reader_from(Guesser(8, 12, (0,), every, (11,))), all_rows(8))

    def test_wrong_values(self):
        for call in (reader_from, turned, first_twice, is_bounded, growing, lambda given: ways_of(given, 5)):
            self.fails_for_all(NotAGuesser, call, NOT_GUESSERS)


class GuesserOfTest(Case):
    def test_has_the_same_rows(self):
        for reader in list(every_reader(1, 2)) + some_readers(42, 60, 3, 6):
            made = guesser_of(reader)
            self.assertEqual((made.signs, made.size, made.begins, made.goals),
                             (reader.signs, len(reader), (0,), reader.ends))
            arrows = {(stand, LETTERS[sign]): goal for stand, goals in enumerate(reader.arrows)
                      for sign, goal in enumerate(goals) if goal is not None}
            self.assertEqual(list(made.steps), sorted((stand, sign, arrows[stand, sign]) for stand, sign in arrows))
            self.assertEqual(reader_from(made), least(reader))

    def test_limit(self):
        self.assertEqual(self.named(guesser_of, reader=cycle(12)).size, 12)
        self.fails(TooMany, lambda: guesser_of(cycle(13)), limit=12)
        self.fails(TooMany, lambda: guesser_of(chain((199,))), limit=12)
        self.fails_for_all(NotAReader, guesser_of, NOT_READERS + [MARKS])


class TurnedTest(Case):
    def test_twice_is_the_same(self):
        for guesser in some_guessers(43, 150):
            made = turned(guesser)
            self.assertEqual((made.begins, made.goals), (guesser.goals, guesser.begins))
            self.assertEqual(set(made.steps), {(goal, sign, stand) for stand, sign, goal in guesser.steps})
            self.assertEqual(turned(made), guesser)
            self.assertEqual(reader_from(made), mirrored(reader_from(guesser)))

    def test_by_name(self):
        made = self.named(turned, guesser=MARKS)
        steps = ((0, "a", 0), (0, "b", 0), (1, "a", 0), (1, "a", 1), (1, "b", 1))
        self.assertEqual(made, Guesser(2, 2, (1,), steps, (0,)))


class WaysTest(Case):
    def test_plainly(self):
        for guesser in some_guessers(44, 300):
            for row in rows_up_to(guesser.signs, 4 if guesser.signs < 3 else 3):
                self.assertEqual(ways_of(guesser, row), ways_plainly(guesser, row))

    def test_edges(self):
        self.assertEqual(self.named(ways_of, guesser=MARKS, row="aab"), 2)
        self.assertEqual([ways_of(MARKS, "bb"), ways_of(MARKS, ""), ways_of(MARKS, "a" * 200)], [0, 0, 200])
        # The empty tuple from each of two stands is a way of its own.
        self.assertEqual(ways_of(Guesser(1, 3, (0, 1), (), (0, 1, 2)), ""), 2)
        self.assertEqual(ways_of(Guesser(1, 2, (), (), ()), ""), 0)
        # A step without a sign beside one with a sign, and two ways round without signs.
        self.assertEqual(ways_of(Guesser(1, 3, (0,), ((0, "", 1), (0, "", 2), (1, "", 2)), (2,)), ""), 2)
        self.assertEqual(ways_of(Guesser(1, 2, (0,), ((0, "", 1), (0, "a", 1), (1, "a", 1)), (1,)), "a"), 2)

    def test_rounds_without_a_sign(self):
        self.assertIsNone(ways_of(Guesser(1, 1, (0,), ((0, "", 0),), (0,)), ""))
        loop = Guesser(2, 3, (0,), ((0, "a", 0), (0, "b", 1), (1, "", 2), (1, "a", 1), (2, "", 1)), (0, 1))
        self.assertEqual([ways_of(loop, "aaa"), ways_of(loop, "aba"), ways_of(loop, "bb")], [1, None, 0])
        # The round is met, but no goal behind it.
        apart = Guesser(1, 3, (0,), ((0, "", 1), (0, "a", 2), (1, "", 1)), (2,))
        self.assertEqual([ways_of(apart, "a"), ways_of(apart, "")], [1, 0])
        # The round can only be come to where the rest of the row does not go on from it.
        later = Guesser(2, 3, (0,), ((0, "a", 1), (0, "b", 0), (1, "", 1), (1, "b", 2), (2, "a", 2)), (0, 2))
        self.assertEqual([ways_of(later, "bb"), ways_of(later, "ab"), ways_of(later, "aa")], [1, None, 0])

    def test_great_numbers(self):
        every = tuple((stand, "a", goal) for stand in range(12) for goal in range(12))
        self.assertEqual(ways_of(Guesser(1, 12, (0,), every, (0,)), "a" * 200), 12 ** 199)

    def test_wrong_rows(self):
        self.fails_for_all(InvalidRow, lambda given: ways_of(MARKS, given), NOT_ROWS + ["c", "a" * 201])
        self.fails(NotAGuesser, lambda: ways_of(EVEN, "a"), given=EVEN)


class FirstTwiceTest(Case):
    def test_plainly(self):
        found = 0
        for guesser in some_guessers(45, 400):
            most = {1: 8, 2: 5, 3: 4}[guesser.signs]
            twice = [row for row in rows_up_to(guesser.signs, most) if ways_plainly(guesser, row) not in (0, 1)]
            row = first_twice(guesser)
            if twice:
                self.assertEqual(row, twice[0])
                found += 1
            elif row is not None:
                self.assertGreater(len(row), most)
                self.assertNotIn(ways_plainly(guesser, row), (0, 1))
        self.assertGreater(found, 50)

    def test_edges(self):
        self.assertEqual(self.named(first_twice, guesser=MARKS), "aa")
        self.assertEqual(first_twice(Guesser(1, 2, (0, 1), (), (0, 1))), "")
        self.assertIsNone(first_twice(Guesser(1, 2, (0, 1), (), (0,))))
        self.assertEqual(first_twice(Guesser(1, 1, (0,), ((0, "", 0),), (0,))), "")
        for reader in (EVEN, AB, cycle(12), no_rows(8)):
            self.assertIsNone(first_twice(guesser_of(reader)))
        # One first sign leads to a longer rest, so the row that is first by its signs is not found first.
        steps = ((0, "a", 1), (0, "b", 2), (0, "b", 3), (1, "b", 4), (2, "b", 5), (3, "a", 5), (3, "b", 5),
                 (4, "a", 5), (4, "a", 6), (5, "", 7), (6, "", 7))
        self.assertEqual(first_twice(Guesser(2, 8, (0,), steps, (7,))), "bb")
        self.assertEqual(first_twice(Guesser(2, 8, (0,), steps[:6] + steps[7:], (7,))), "aba")


class GrowingTest(Case):
    def assert_grows(self, guesser):
        front, middle, tail = growing(guesser)
        for many in range(1, 9):
            row = front + many * middle + tail
            ways = ways_plainly(guesser, row)
            self.assertTrue(ways is None or ways >= many, (front, middle, tail))
            if len(row) <= 200:
                self.assertEqual(ways_of(guesser, row), ways)

    def test_plainly(self):
        kinds = [0, 0]
        for guesser in some_guessers(46, 400):
            bounded = self.is_bounded_plainly(guesser)
            self.assertIs(is_bounded(guesser), bounded)
            kinds[bounded] += 1
            if bounded:
                self.assertIsNone(growing(guesser))
            else:
                self.assert_grows(guesser)
        self.assertGreater(min(kinds), 50)

    def is_bounded_plainly(self, guesser):
        """Whether the numbers of ways to the useful stands, for all rows, are finitely many lists."""
        reader = reader_from(turned(guesser))
        if reader == no_rows(guesser.signs):
            return True
        useful = [stand for stand in range(guesser.size) if self.is_useful(guesser, stand)]
        steps = [step for step in guesser.steps if step[0] in useful and step[2] in useful]
        if any(self.goes_round(steps, stand) for stand in useful):
            return False
        begins = tuple(int(stand in useful and stand in guesser.begins) for stand in range(guesser.size))
        met = [self.led_without(steps, begins)]
        seen = set(met)
        for numbers in met:
            for sign in LETTERS[:guesser.signs]:
                more = self.led_without(steps, self.led(steps, numbers, sign))
                if more not in seen:
                    seen.add(more)
                    met.append(more)
            if len(met) > 400:
                return False
        return True

    def is_useful(self, guesser, stand):
        to_it = Guesser(guesser.signs, guesser.size, guesser.begins, guesser.steps, (stand,))
        from_it = Guesser(guesser.signs, guesser.size, (stand,), guesser.steps, guesser.goals)
        return no_rows(guesser.signs) not in (reader_from(to_it), reader_from(from_it))

    def goes_round(self, steps, stand):
        met = [goal for begin, sign, goal in steps if begin == stand and not sign]
        for here in met:
            met += [goal for begin, sign, goal in steps if begin == here and not sign and goal not in met]
        return stand in met

    def led(self, steps, numbers, sign):
        sums = [0] * len(numbers)
        for stand, other, goal in steps:
            if other == sign:
                sums[goal] += numbers[stand]
        return tuple(sums)

    def led_without(self, steps, numbers):
        sums = list(numbers)
        while any(numbers):
            numbers = self.led(steps, numbers, "")
            sums = [one + other for one, other in zip(sums, numbers)]
        return tuple(sums)

    def test_edges(self):
        self.assertIsNone(self.named(growing, guesser=guesser_of(EVEN)))
        self.assertIs(self.named(is_bounded, guesser=MARKS), False)
        self.assert_grows(MARKS)
        # A round without a sign: the middle may be empty. It counts only where it is on a way.
        self.assert_grows(Guesser(2, 3, (0,), ((0, "a", 1), (1, "", 1), (1, "b", 2)), (2,)))
        self.assertTrue(is_bounded(Guesser(2, 3, (0,), ((0, "a", 1), (0, "b", 2), (1, "", 1)), (2,))))
        # Two ways from a stand to itself that never are at different stands behind a sign.
        self.assert_grows(Guesser(1, 2, (0,), ((0, "", 1), (0, "a", 0), (1, "a", 0)), (0,)))
        # Many ways, but never more than eight.
        steps = tuple((at, sign, at + 1) for at in range(3) for sign in ("", "a"))
        self.assertTrue(is_bounded(Guesser(1, 4, (0, 1, 2, 3), steps, (0, 1, 2, 3))))
        self.assertTrue(is_bounded(Guesser(1, 2, (0, 1), ((0, "a", 0), (1, "a", 1)), (0, 1))))
        # Two rounds of unlike lengths with a way from the one to the other.
        far = ((0, "a", 1), (1, "a", 2), (1, "a", 3), (2, "a", 0), (3, "a", 4), (4, "a", 3))
        self.assert_grows(Guesser(1, 5, (0,), far, (3,)))
        # Different signs on both rounds: no row goes round in both.
        self.assertTrue(is_bounded(Guesser(2, 2, (0,), ((0, "a", 0), (0, "b", 1), (1, "b", 1)), (1,))))
        self.assertIsNone(growing(Guesser(1, 2, (0,), ((0, "a", 0), (0, "a", 1), (1, "a", 1)), ())))

    def test_great_guessers(self):
        every = tuple((stand, sign, goal) for stand in range(12) for sign in LETTERS for goal in range(12))
        self.assert_grows(Guesser(8, 12, (0,), every, (11,)))
        chance = random.Random(47)
        behind = tuple(sorted((chance.randrange(12), sign, goal) for sign in LETTERS for goal in range(12)))
        # Each sign can be read back from each stand in one way alone.
        self.assertTrue(is_bounded(Guesser(8, 12, tuple(range(12)), behind, (3,))))
