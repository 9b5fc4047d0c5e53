"""rowreaders.hidden."""

import random

from helpers import AB, EVEN, LETTERS, NOT_INTEGERS, NOT_READERS, NOT_ROWS, STRANGE, Case, chain, cycle, every_reader
from helpers import is_yes, rows_up_to, some_reader, with_useless

from rowreaders import hidden
from rowreaders.errors import InvalidNumber, InvalidRow, InvalidSigns, InvalidTold, NotAReader, TooMany
from rowreaders.hidden import fewest_stands, fitting, learned, sure_answer
from rowreaders.likeness import first_apart, least, same_rows
from rowreaders.readers import Reader, all_rows, filled, no_rows, only, says


def place_of(reader):
    """What sorts readers as fitting does."""
    arrows = [[-1 if goal is None else goal for goal in goals] for goals in reader.arrows]
    return len(reader), arrows, reader.ends


def least_readers(signs, most):
    """All least readers with up to so many stands, in the sequence that fitting tells."""
    every = [reader for size in range(1, most + 1) for reader in every_reader(signs, size)]
    return sorted([reader for reader in every if least(reader) == reader], key=place_of)


LEAST = {1: least_readers(1, 4), 2: least_readers(2, 3)}


def fitting_plainly(signs, stands, yes, no):
    return tuple(reader for reader in LEAST[signs] if len(reader) <= stands
                 and all(is_yes(reader, row) for row in yes) and not any(is_yes(reader, row) for row in no))


def some_told(seed, many, signs):
    """Rows that some small reader tells, and some that are told by chance."""
    chance = random.Random(seed)
    told = []
    for turn in range(many):
        reader = chance.choice(LEAST[signs])
        rows = ["".join(chance.choice(LETTERS[:signs]) for _ in range(chance.randint(0, 8)))
                for _ in range(chance.randint(0, 7))]
        if turn % 4 == 3:
            told.append((tuple(rows[::2]), tuple(rows[1::2])))
        else:
            told.append((tuple(row for row in rows if is_yes(reader, row)),
                         tuple(row for row in rows if not is_yes(reader, row))))
    return told


class FittingTest(Case):
    def test_how_many_there_are(self):
        self.assertEqual([len(fitting(1, stands, (), ())) for stands in (1, 2, 3)], [3, 8, 22])
        self.assertEqual([len(fitting(2, stands, (), ())) for stands in (1, 2, 3)], [5, 104, 4170])
        self.assertEqual(fitting(1, 3, (), ()), fitting_plainly(1, 3, (), ()))
        self.assertEqual(fitting(2, 3, (), ()), fitting_plainly(2, 3, (), ()))
        self.assertEqual(fitting(2, 1, (), ())[0], no_rows(2))

    def test_plainly(self):
        for signs, many in ((1, 60), (2, 10)):
            for yes, no in some_told(signs, many, signs):
                for stands in (1, 2, 3):
                    found = fitting(signs, stands, yes, no)
                    self.assertIsInstance(found, tuple)
                    self.assertEqual(found, fitting_plainly(signs, stands, yes, no))
                    self.assertEqual(len({(reader.arrows, reader.ends) for reader in found}), len(found))
                self.assertEqual(fewest_stands(signs, yes, no), len(found[0]) if found else None)

    def test_edges(self):
        self.assertEqual(self.named(fewest_stands, signs=1, yes=("a",), no=("",)), 2)
        self.assertEqual(self.named(fitting, signs=1, stands=2, yes=("a",), no=("",))[1].arrows, ((1,), (0,)))
        self.assertEqual(fewest_stands(2, (), ()), 1)
        self.assertIsNone(fewest_stands(2, ("ab", "a"), ("b", "ab")))
        self.assertEqual(fitting(2, 3, ("ab",), ("ab",)), ())
        # Four stands and more are needed, or the same row is told twice.
        self.assertIsNone(fewest_stands(1, ("aaa",), ("", "a", "aa", "aaaa")))
        self.assertEqual(fitting(1, 3, ("aaa",), ("", "a", "aa", "aaaa")), ())
        self.assertEqual(fewest_stands(1, ("aa", "aa", "aa"), ("", "a", "")), 3)
        self.assertEqual(fewest_stands(2, ("b" * 8,) * 12, ("a" * 8,) * 12), 1)
        # The reader without yes rows is among those that fit as long as no yes row is told.
        for no in ((), ("", "ab"), ("a", "b")):
            self.assertEqual(fitting(2, 3, (), no)[0], no_rows(2))
        self.assertNotIn(no_rows(2), list(fitting(2, 3, ("b",), ())))

    def test_wrong_values(self):
        many = ("a",) * 13
        told = [["a"], [], many, ("a" * 9,), ("a", "A"), ("a", None), ("a", ("a",)), "a", "", None, 0, {"a": 1},
                ("b",), ("a", b"a"), (1,), (True,)]
        for signs in NOT_INTEGERS + [0, 3, -1, 10 ** 59]:
            self.fails(InvalidSigns, lambda: fewest_stands(signs, 0, 0), given=signs)
            self.fails(InvalidSigns, lambda: fitting(signs, 0, 0, 0), given=signs)
            self.fails(InvalidSigns, lambda: sure_answer(signs, 0, 0, 0, 0), given=signs)
        for stands in NOT_INTEGERS + [0, 4, -1, 10 ** 59]:
            self.fails(InvalidNumber, lambda: fitting(1, stands, 0, 0), given=stands)
            self.fails(InvalidNumber, lambda: sure_answer(2, stands, 0, 0, 0), given=stands)
        for value in told + [thing for thing in STRANGE if thing != ("",)]:
            self.fails(InvalidTold, lambda: fewest_stands(1, value, 0), given=value)
            self.fails(InvalidTold, lambda: fewest_stands(1, (), value), given=value)
            self.fails(InvalidTold, lambda: fitting(1, 3, value, 0), given=value)
            self.fails(InvalidTold, lambda: fitting(1, 3, (), value), given=value)
            self.fails(InvalidTold, lambda: sure_answer(1, 3, value, 0, 0), given=value)
            self.fails(InvalidTold, lambda: sure_answer(1, 3, (), value, 0), given=value)
        self.fails(InvalidTold, lambda: fewest_stands(2, ("c",), ()), given=("c",))


class SureAnswerTest(Case):
    def test_plainly(self):
        kinds = {True: 0, False: 0, None: 0}
        for signs, many in ((1, 40), (2, 5)):
            for yes, no in some_told(10 + signs, many, signs):
                for stands in (1, 2, 3):
                    found = fitting(signs, stands, yes, no)
                    for row in list(rows_up_to(signs, 1)) + ["a" * 7, LETTERS[:signs] * 3, "a" * 199]:
                        said = {is_yes(reader, row) for reader in found}
                        wanted = said.pop() if len(said) == 1 else None
                        self.assertIs(sure_answer(signs, stands, yes, no, row), wanted)
                        kinds[wanted] += 1
        self.assertTrue(all(kinds.values()), kinds)

    def test_edges(self):
        self.assertIs(self.named(sure_answer, signs=1, stands=2, yes=("a", "aa"), no=("",), row="aaa"), True)
        self.assertIs(sure_answer(1, 1, (), ("",), "a" * 200), False)
        self.assertIs(sure_answer(2, 1, ("a", "b"), (), "ab" * 100), True)
        self.assertIsNone(sure_answer(1, 2, ("a",), ("",), "aa"))
        self.assertIsNone(sure_answer(1, 3, ("a",), ("a",), "a"))

    def test_wrong_rows(self):
        self.fails_for_all(InvalidRow, lambda given: sure_answer(2, 1, (), (), given), NOT_ROWS + ["c", "abc"])
        self.fails_for_all(InvalidRow, lambda given: sure_answer(1, 1, ("a",), ("a",), given), ["b", "a" * 201])


class TestRowsTest(Case):
    def passes(self, reader, rows):
        return [is_yes(reader, row) for row in rows]

    def assert_tests(self, reader, more, others):
        """Of all least readers with so many stands more, those that pass say the same."""
        rows = hidden.test_rows(reader, more)
        self.assertIsInstance(rows, tuple)
        wanted = self.passes(reader, rows)
        made = least(reader)
        found = [other for other in others if len(other) <= len(made) + more and self.passes(other, rows) == wanted]
        self.assertEqual(found, [made])

    def test_plainly(self):
        # Whatever has so many stands at most has a least reader with so many at most.
        for reader in LEAST[1]:
            for more in (0, 1):
                if len(reader) + more <= 4:
                    self.assert_tests(reader, more, LEAST[1])
        for reader in LEAST[2][:104:6] + [EVEN, AB, all_rows(2), no_rows(2), only(2, ("",)), only(2, ("b",))]:
            for more in (0, 1):
                self.assert_tests(reader, more, LEAST[2])
        for reader in random.Random(41).sample(LEAST[2][104:], 10):
            self.assert_tests(reader, 0, LEAST[2])

    def test_edges(self):
        self.named(hidden.test_rows, reader=EVEN, more=0)
        for reader in (with_useless(EVEN), filled(AB)):
            self.assert_tests(reader, 1, LEAST[2])
        # A reader of one sign with a stand more may say otherwise of a long row alone.
        for more in (0, 1):
            self.assertIn("aa", hidden.test_rows(all_rows(1), 1))
        for reader in (cycle(6), cycle(6, 8), chain((5,), 3), chain((0, 5)), Reader(8, ((0,) * 8,), ())):
            for more in (0, 1):
                rows = hidden.test_rows(reader, more)
                self.assertTrue(all(isinstance(row, str) for row in rows))
        rows = hidden.test_rows(chain((5,), 3), 1)
        other = Reader(3, chain((5,), 3).arrows[:5] + ((None, None, 6), (None, None, None)), (5, 6))
        self.assertNotEqual(self.passes(other, rows), self.passes(chain((5,), 3), rows))

    def test_wrong_values(self):
        self.fails_for_all(NotAReader, lambda given: hidden.test_rows(given, 5), NOT_READERS)
        wrong = NOT_INTEGERS + [-1, 2, 10 ** 59]
        self.fails_for_all(InvalidNumber, lambda given: hidden.test_rows(EVEN, given), wrong)
        self.fails_for_all(InvalidNumber, lambda given: hidden.test_rows(cycle(7), given), wrong)
        for reader in (cycle(7), chain((6,)), cycle(200, 8)):
            self.fails(TooMany, lambda: hidden.test_rows(reader, 0), limit=6)
            self.fails(TooMany, lambda: hidden.test_rows(reader, 1), limit=6)
        # Only the least reader matters.
        self.assertTrue(hidden.test_rows(Reader(1, cycle(200).arrows, tuple(range(0, 200, 2))), 0))


class Teacher:
    """Answers for a reader, and counts the guesses; counter tells how to find rows that a guess says otherwise of."""

    def __init__(self, reader, counter):
        self.reader = reader
        self.counter = counter
        self.guesses = []
        self.rows = []
        self.told = []

    def says(self, row):
        self.rows.append(row)
        return is_yes(self.reader, row)

    def apart(self, guess):
        self.guesses.append(guess)
        if same_rows(guess, self.reader):
            return None
        row = self.counter(guess, self.reader)
        assert is_yes(guess, row) != is_yes(self.reader, row)
        self.told.append(row)
        return row


def by_chance(chance, most):
    """Finds rows by chance, of any length up to the most, if it can."""
    def counter(guess, reader):
        for _ in range(200):
            row = "".join(chance.choice(LETTERS[:reader.signs]) for _ in range(chance.randint(0, most)))
            if is_yes(guess, row) != is_yes(reader, row):
                return row
        return first_apart(guess, reader)
    return counter


def longest_apart(guess, reader):
    """A rather long row of which the two say otherwise, the first signs repeated as long as this can be so."""
    row = first_apart(guess, reader)
    for size in (1, 2, 3, 4, 5, 6):
        for at in range(len(row) - size + 1):
            longer = row[:at] + row[at:at + size] * 60 + row[at + size:]
            if is_yes(guess, longer) != is_yes(reader, longer):
                return longer
    return row


class LearnedTest(Case):
    def assert_learned(self, reader, counter):
        teacher = Teacher(reader, counter)
        found = learned(reader.signs, teacher.says, teacher.apart)
        self.assertIsInstance(found, tuple)
        made, guesses = found
        self.assertEqual(made, least(reader))
        self.assertEqual(guesses, len(teacher.guesses))
        self.assertEqual(teacher.guesses[-1], made)
        self.assertLessEqual(guesses, len(least(filled(least(reader)))))
        self.assertTrue(all(len(guess) <= 12 and isinstance(guess, Reader) for guess in teacher.guesses))
        # No rows are asked for that are longer than need be.
        self.assertLessEqual(max(map(len, teacher.rows)), max([100] + [len(row) for row in teacher.told]))
        return teacher

    def test_readers_by_chance(self):
        chance = random.Random(42)
        counters = [first_apart, by_chance(chance, 12), by_chance(chance, 200), longest_apart]
        for turn in range(360):
            reader = some_reader(chance, chance.randint(1, 4), chance.randint(1, 12), chance.choice([0, 0, 0.1, 0.4]),
                                 chance.choice([0.1, 0.5, 0.9]))
            self.assert_learned(reader, counters[turn % 4])

    def test_edges(self):
        for reader in (all_rows(1), all_rows(4), no_rows(1), no_rows(4), only(2, ("",)), only(3, ("abc", "cb"))):
            self.assert_learned(reader, first_apart)
        for reader in (cycle(12), cycle(12, 4), chain((11,)), chain((11,), 4), chain((0, 11), 3)):
            for counter in (first_apart, longest_apart):
                self.assert_learned(reader, counter)
        even = self.named(learned, signs=2, says=lambda row: says(EVEN, row), apart=lambda made: first_apart(made, EVEN))
        self.assertEqual(even[0], EVEN)
        self.assertEqual(learned(1, lambda row: True, lambda made: None), (all_rows(1), 1))
        self.assertEqual(learned(3, lambda row: False, lambda made: None), (no_rows(3), 1))

    def test_long_rows_in_which_the_first_signs_matter(self):
        # Behind the first sign the one tells whether there is an even number of b's, the other one the opposite.
        reader = Reader(2, ((1, 2), (1, 2), (2, 1)), (1,))
        for tail in ("b" * 198, "ab" * 99, "a" * 199, "b" * 3001, "aab" * 1000):
            def counter(guess, reader):
                for row in ("a" + tail, "b" + tail, "ba" + tail, "bb" + tail, "bab" + tail, "abb" + tail):
                    if is_yes(guess, row) != is_yes(reader, row):
                        return row
                return first_apart(guess, reader)
            self.assert_learned(reader, counter)
        # Where the rows that are told have 200 signs at most, those that are asked for have no more either.
        chance = random.Random(43)
        for size in (9, 10, 11, 12):
            reader = some_reader(chance, 2, size, 0)

            def packaged(row):
                return says(reader, row)

            def apart(made):
                if same_rows(made, reader):
                    return None
                return max([by_chance(chance, 200)(made, reader) for _ in range(5)], key=len)
            self.assertEqual(learned(2, packaged, apart)[0], least(reader))

    def test_too_many(self):
        for reader in (cycle(13), chain((12,)), cycle(200), chain((199,), 2), some_reader(random.Random(44), 4, 60, 0)):
            teacher = Teacher(reader, first_apart)
            self.fails(TooMany, lambda: learned(reader.signs, teacher.says, teacher.apart), limit=12)
            self.assertTrue(all(len(guess) <= 12 for guess in teacher.guesses))
        # What nobody reads with finitely many stands is none either.
        rows = [row for row in rows_up_to(2, 7)]
        mirrors = lambda row: row == row[::-1]
        self.fails(TooMany, lambda: learned(2, mirrors, lambda made: next(
            row for row in rows if is_yes(made, row) != mirrors(row))), limit=12)

    def test_errors_go_on(self):
        def fails(_):
            raise ZeroDivisionError("of the caller")
        self.fails(ZeroDivisionError, lambda: learned(2, fails, lambda made: None))
        self.fails(ZeroDivisionError, lambda: learned(2, lambda row: True, fails))
        asked = []

        def fails_late(row):
            asked.append(row)
            if len(asked) > 5:
                raise InvalidRow(row)
            return is_yes(cycle(5), row)
        self.fails(InvalidRow, lambda: learned(1, fails_late, lambda made: first_apart(made, cycle(5))))

    def test_wrong_values(self):
        self.fails_for_all(InvalidSigns, lambda given: learned(given, None, None), NOT_INTEGERS + [0, 5, -1, 10 ** 59])

    def test_where_they_stand(self):
        for name in ("fewest_stands", "fitting", "sure_answer", "test_rows", "learned"):
            self.assertEqual(getattr(hidden, name).__module__, "rowreaders.hidden")
