"""rowreaders.numbers."""

import itertools
import random

from helpers import AB, EVEN, LETTERS, NOT_INTEGERS, NOT_READERS, NOT_ROWS, STRANGE, Case, chain, cycle, is_yes
from helpers import least_plainly, rows_up_to, some_reader

from rowreaders import numbers
from rowreaders.errors import InvalidFormula, InvalidNumber, InvalidRow, InvalidTold, TooMany
from rowreaders.numbers import first_numbers, fulfils, how_many_below, is_true, numbers_by, reader_for, row_for
from rowreaders.readers import Reader, all_rows, is_full, no_rows

EVENS = ("some", ("sum", (1, -2), "=", 0))
POWERS = ("in", 0, Reader(2, ((0, 1), (1, None)), (1,)))
TRUE = {many: ("sum", (0,) * many, "=", 0) for many in range(4)}
# Numbers that fulfil this have a reader with just 200 stands.
WITH_200 = ("and", ("sum", (7, -9), "<=", 91), ("sum", (-9, 1), "<=", -32))
WITH_200_OF_3 = ("and", ("sum", (7, -9, 0), "<=", 91), ("sum", (-9, 1, 0), "<=", -32))
WITH_MORE = ("and", ("sum", (-8, 7), "<=", 0), ("sum", (2, -7), "<=", 88))
WRONG_TRACKS = NOT_INTEGERS + [0, 4, -1, 10 ** 59, -10 ** 59, "1", (1,)]
WRONG_NUMBERS = [thing for thing in STRANGE if thing != ()] + [
    0, 5, [1], (1, 2, 3, 4), (-1,), (10 ** 40,), (1, 10 ** 40), (True,), (1, False), (1, "2"), ("",), (None,), ((1,),),
    ([1],), (10 ** 59, 1), (0, -10 ** 59)]


def multiples(number, factor):
    """A formula of the multiples of a small number, of one number."""
    return ("some", ("sum", (factor, -number), "=", 0))


def number_plainly(tracks, track, row):
    return sum((LETTERS.index(sign) >> track & 1) << at for at, sign in enumerate(row))


def row_plainly(given):
    row = ""
    while any(given):
        row += LETTERS[sum((number & 1) << track for track, number in enumerate(given))]
        given = [number >> 1 for number in given]
    return row


def reckoned(formula, given, most):
    """Whether numbers fulfil a formula, with some and all tried for all numbers below most."""
    word = formula[0]
    if word == "sum":
        found = sum(factor * number for factor, number in zip(formula[1], given))
        return found == formula[3] if formula[2] == "=" else found <= formula[3]
    if word == "in":
        return is_yes(formula[2], row_plainly([given[formula[1]]]))
    if word == "not":
        return not reckoned(formula[1], given, most)
    if word in ("and", "or"):
        parts = [reckoned(part, given, most) for part in formula[1:]]
        return all(parts) if word == "and" else any(parts)
    parts = (reckoned(formula[1], given + (number,), most) for number in range(most))
    return any(parts) if word == "some" else all(parts)


def some_formula(chance, many, deep, quantors=1):
    """A formula made by chance, with small factors, so that small numbers are enough for some and all."""
    word = chance.choice(["sum", "in"] if deep == 1 else ["not", "and", "or", "sum", "some", "all"])
    if word in ("some", "all") and (many == 3 or not quantors):
        word = "and"
    if word == "in" and not many:
        word = "sum"
    if word == "sum":
        return (word, tuple(chance.randint(-3, 3) for _ in range(many)), chance.choice(["=", "<="]),
                chance.randint(-8, 8))
    if word == "in":
        return word, chance.randrange(many), some_reader(chance, 2, chance.randint(1, 3), 0.2)
    if word == "not":
        return word, some_formula(chance, many, deep - 1, quantors)
    if word in ("and", "or"):
        return (word, some_formula(chance, many, deep - 1, quantors), some_formula(chance, many, deep - 1, quantors))
    return word, some_formula(chance, many + 1, deep - 1, quantors - 1)


def some_formulas(seed, many, of):
    chance = random.Random(seed)
    return [some_formula(chance, of, chance.randint(1, 5)) for _ in range(many)]


def not_formulas(of):
    """Things that are no formula of so many numbers."""
    zeros = (0,) * of
    right = ("sum", zeros, "=", 0)
    more = ("sum", zeros + (0,), "=", 0)
    deep = right
    for _ in range(5):
        deep = ("not", deep)
    wrong = [thing for thing in STRANGE] + [
        0, "sum", "not", ["sum", zeros, "=", 0], ("sum",), right[:3], right + (0,), ("Sum",) + right[1:],
        ("sum", list(zeros), "=", 0), ("sum", zeros + (1,), "=", 0), ("sum", zeros, "<", 0), ("sum", zeros, "==", 0),
        ("sum", zeros, "", 0), ("sum", zeros, 0, 0), ("sum", zeros, ("=",), 0), ("sum", zeros, None, 0),
        ("sum", zeros, "=", 100), ("sum", zeros, "<=", -100), ("sum", zeros, "=", True), ("sum", zeros, "=", "0"),
        ("sum", zeros, "=", None), ("sum", zeros, "=", (0,)), ("sum", 0, "=", 0), ("sum", "", "=", 0),
        (b"sum", zeros, "=", 0), (None, zeros, "=", 0), (("sum",), zeros, "=", 0),
        ("not",), ("not", right, right), ("not", more), ("not", None), ("not", [right]), ("not", (right,)),
        ("and", right), ("and", right, right, right), ("and", right, more), ("and", more, right), ("or", right),
        ("or", right, right, right), ("or", right, 0), ("or", more, right), ("xor", right, right), ("", right),
        ("some",), ("some", right), ("some", more, more), ("all", right), ("all", more, more), ("all", None),
        ("in",), ("in", of, EVEN), ("in", -1, EVEN), ("in", True, EVEN), ("in", False, EVEN), ("in", "0", EVEN),
        ("in", None, EVEN), ("in", 0), ("in", 0, None), ("in", 0, EVEN, EVEN), ("in", 0, all_rows(1)),
        ("in", 0, all_rows(3)), ("in", 0, cycle(13, 2)), ("in", 0, (2, EVEN.arrows, EVEN.ends)), deep, ("or", right, deep)]
    for at in range(of):
        for factor in (-10, 10, True, False, "1", None, (1,), 10 ** 59):
            wrong.append(("sum", zeros[:at] + (factor,) + zeros[at + 1:], "=", 0))
    if of == 0:
        wrong += [("in", 0, EVEN), ("in", 0, AB)]
    if of == 3:
        wrong += [("some", ("sum", (0,) * 4, "=", 0)), ("all", ("not", ("sum", (0,) * 4, "=", 0)))]
    if of == 2:
        wrong += [("some", ("some", ("sum", (0,) * 4, "=", 0)))]
    return wrong


class TracksTest(Case):
    def test_plainly(self):
        for tracks in (1, 2, 3):
            for row in rows_up_to(1 << tracks, {1: 8, 2: 5, 3: 3}[tracks]):
                found = numbers_by(tracks, row)
                self.assertEqual(found, tuple(number_plainly(tracks, track, row) for track in range(tracks)))
                # A row and the numbers tell each other, but for a's at the end.
                self.assertEqual(row_for(found), row.rstrip("a"))
                self.assertEqual(numbers_by(tracks, row + "aa"), found)
                self.assertEqual(row_for(found), row_plainly(found))

    def test_great_numbers(self):
        chance = random.Random(161)
        for tracks in (1, 2, 3):
            for most in (10, 10 ** 9, 10 ** 40 - 1):
                for _ in range(5):
                    given = tuple(chance.randint(0, most) for _ in range(tracks))
                    self.assertEqual(numbers_by(tracks, row_for(given)), given)
                    self.assertEqual(row_for(given), row_plainly(given))

    def test_edges(self):
        self.assertEqual(self.named(numbers_by, tracks=2, row="bd"), (3, 2))
        self.assertEqual(self.named(row_for, numbers=(3, 2)), "bd")
        self.assertEqual([numbers_by(1, ""), numbers_by(3, ""), numbers_by(3, "aaa"), row_for((0,)), row_for((0, 0, 0))],
                         [(0,), (0, 0, 0), (0, 0, 0), "", ""])
        self.assertEqual([numbers_by(1, "aab"), numbers_by(3, "h"), numbers_by(3, "abcdefgh")],
                         [(4,), (1, 1, 1), (170, 204, 240)])
        self.assertEqual(numbers_by(1, "b" * 200), (2 ** 200 - 1,))
        self.assertEqual([len(row_for((10 ** 40 - 1,))), len(row_for((0, 10 ** 40 - 1, 5)))], [133, 133])

    def test_wrong_values(self):
        self.fails_for_all(InvalidNumber, lambda given: numbers_by(given, 5), WRONG_TRACKS)
        for tracks, sign in ((1, "c"), (2, "e"), (3, "i")):
            self.fails_for_all(InvalidRow, lambda given: numbers_by(tracks, given), NOT_ROWS + [sign, "a" + sign])
        self.fails_for_all(InvalidTold, row_for, WRONG_NUMBERS + [()])
        for name in ("numbers_by", "row_for", "reader_for", "fulfils", "is_true", "first_numbers", "how_many_below"):
            self.assertEqual(getattr(numbers, name).__module__, "rowreaders.numbers")


class FormulaTest(Case):
    def test_against_reckoning(self):
        for of, many, most in ((0, 40, 1), (1, 60, 40), (2, 60, 8), (3, 25, 4)):
            for formula in some_formulas(162 + of, many, of):
                for given in itertools.product(range(most), repeat=of):
                    self.assertIs(fulfils(given, formula), reckoned(formula, given, 64))

    def test_readers(self):
        for of, many in ((1, 40), (2, 40), (3, 15)):
            for formula in some_formulas(166 + of, many, of):
                made = reader_for(of, formula)
                self.assertEqual(made.signs, 1 << of)
                self.assertEqual((made.arrows, made.ends), least_plainly(made))
                for row in rows_up_to(1 << of, {1: 5, 2: 2, 3: 1}[of]):
                    given = tuple(number_plainly(of, track, row) for track in range(of))
                    self.assertIs(is_yes(made, row), reckoned(formula, given, 64))
                    self.assertIs(is_yes(made, row + "a"), is_yes(made, row))

    def test_edges(self):
        self.assertEqual(self.named(reader_for, tracks=1, formula=EVENS).arrows, ((1, None), (1, 1)))
        self.assertEqual([reader_for(tracks, TRUE[tracks]) for tracks in (1, 2, 3)],
                         [all_rows(2), all_rows(4), all_rows(8)])
        self.assertEqual(reader_for(3, ("not", TRUE[3])), no_rows(8))
        self.assertIs(self.named(fulfils, numbers=(2, 3), formula=("sum", (1, 1), "<=", 5)), True)
        self.assertIs(fulfils((2, 4), ("sum", (1, 1), "<=", 5)), False)
        self.assertIs(self.named(is_true, formula=("all", ("some", ("sum", (1, -1), "<=", -1)))), True)
        self.assertIs(is_true(("some", ("all", ("sum", (1, -1), "<=", -1)))), False)
        self.assertIs(is_true(("some", ("all", ("sum", (1, -1), "<=", 0)))), True)

    def test_limits_of_formulas(self):
        for of in range(4):
            for factor in (-9, 9):
                for total in (-99, 99):
                    for sign in ("=", "<="):
                        formula = ("sum", (factor,) * of, sign, total)
                        found = factor * 5 * of
                        self.assertIs(fulfils((5,) * of, formula), found == total if sign == "=" else found <= total)
        self.assertIs(fulfils((11, 0, 0), ("sum", (9, 9, -9), "=", 99)), True)
        self.assertIs(fulfils((0, 0, 11), ("sum", (9, 9, -9), "=", -99)), True)
        twelve = ("in", 0, chain((0, 11), 2))
        self.assertEqual([fulfils((number,), twelve) for number in (0, 1, 1023, 1024, 2047, 2048)],
                         [True, False, False, True, True, False])
        # As many stands as there are, not as the least reader has.
        too_great = ("some", ("in", 0, Reader(2, ((0, 0),) * 13, (0,))))
        self.fails(InvalidFormula, lambda: is_true(too_great), given=too_great)

    def test_five_deep(self):
        for of in range(4):
            formula = TRUE[of]
            for _ in range(4):
                formula = ("not", formula)
            self.assertIs(fulfils((7,) * of, formula), True)
            six = ("and", TRUE[of], ("or", formula, TRUE[of]))
            self.fails(InvalidFormula, lambda: fulfils((7,) * of, six), given=six)
        # One more than 9 times the sum of two numbers, of which one is one more than the other.
        never = ("sum", (0, 0, 0), "=", 1)
        deep = ("some", ("some", ("and", ("sum", (1, -9, -9), "=", 1), ("or", ("sum", (0, 1, -1), "=", 1), never))))
        self.assertEqual([number for number in range(100) if fulfils((number,), deep)], [10, 28, 46, 64, 82])
        all_deep = ("all", ("all", ("or", ("not", ("sum", (1, -9, -9), "=", 1)), ("sum", (0, 1, -1), "<=", -1))))
        self.assertEqual([number for number in range(12) if not fulfils((number,), all_deep)], [1, 10])

    def test_some_numbers_are_far_away(self):
        # Some number more may have far more figures than all others.
        far = ("some", ("and", ("sum", (1, -1), "<=", -1), ("in", 1, chain((11,), 2))))
        self.assertEqual([fulfils((number,), far) for number in (0, 1, 1023, 2046, 2047, 10 ** 39)],
                         [True, True, True, True, False, False])
        self.assertEqual(reader_for(1, ("some", ("in", 1, chain((11,), 2)))), all_rows(2))
        self.assertEqual(reader_for(2, ("some", ("in", 2, chain((11,), 2)))), all_rows(4))
        self.assertEqual(reader_for(1, ("all", ("in", 1, chain(tuple(range(12)), 2)))), no_rows(2))
        self.assertIs(is_true(("some", ("in", 0, chain((11,), 2)))), True)
        self.assertIs(is_true(("some", ("in", 0, no_rows(2)))), False)
        self.assertIs(is_true(("all", ("in", 0, all_rows(2)))), True)
        # Shortest rows do not end with a, so no other rows matter.
        for reader in (Reader(2, ((1, 0), (1, 0)), (0,)), all_rows(2)):
            self.assertEqual(reader_for(1, ("in", 0, reader)), all_rows(2))
            self.assertIs(is_true(("all", ("in", 0, reader))), True)
        self.assertEqual(reader_for(1, ("in", 0, Reader(2, ((1, 0), (1, 0)), (1,)))), no_rows(2))

    def test_tracks_of_readers(self):
        for of in (1, 2, 3):
            for track in range(of):
                formula = ("in", track, AB)
                for given in itertools.product(range(5), repeat=of):
                    self.assertIs(fulfils(given, formula), given[track] in (0, 2))

    def test_great_numbers(self):
        chance = random.Random(170)
        for _ in range(30):
            one, two = chance.randint(0, 10 ** 39), chance.randint(0, 10 ** 39)
            self.assertIs(fulfils((one, two, one + two), ("sum", (1, 1, -1), "=", 0)), True)
            self.assertIs(fulfils((one, two, one + two + 1), ("sum", (1, 1, -1), "=", 0)), False)
            self.assertIs(fulfils((one, two, one + two + 1), ("sum", (1, 1, -1), "=", -1)), True)
            self.assertIs(fulfils((one, two), ("sum", (1, -1), "<=", 0)), one <= two)
            self.assertIs(fulfils((one,), EVENS), one % 2 == 0)
            self.assertIs(fulfils((one,), multiples(7, 1)), one % 7 == 0)
        self.assertIs(fulfils((10 ** 40 - 1,), multiples(9, 1)), True)
        self.assertIs(fulfils((2 ** 132,), POWERS), True)
        self.assertIs(fulfils((2 ** 132 + 1,), POWERS), False)

    def test_first_numbers(self):
        for of, many in ((1, 60), (2, 60), (3, 20)):
            for formula in some_formulas(171 + of, many, of):
                found = first_numbers(of, formula)
                made = reader_for(of, formula)
                fits = [row for row in rows_up_to(1 << of, {1: 8, 2: 4, 3: 2}[of])
                        if not row.endswith("a") and is_yes(made, row)]
                if fits:
                    self.assertEqual(row_for(found), fits[0])
                elif found is not None:
                    self.assertTrue(fulfils(found, formula))
                    self.assertGreater(len(row_for(found)), {1: 8, 2: 4, 3: 2}[of])
                else:
                    self.assertEqual(reader_for(of, formula), no_rows(1 << of))
        self.assertEqual(self.named(first_numbers, tracks=2, formula=("sum", (3, -5), "=", 1)), (2, 1))
        self.assertIsNone(first_numbers(1, ("sum", (2,), "=", 1)))
        self.assertEqual(first_numbers(3, TRUE[3]), (0, 0, 0))

    def test_how_many_below(self):
        for formula in some_formulas(175, 60, 1):
            fits = [fulfils((number,), formula) for number in range(70)]
            for number in (0, 1, 2, 3, 31, 32, 33, 69, 70):
                self.assertEqual(how_many_below(formula, number), sum(fits[:number]))
        self.assertEqual(self.named(how_many_below, formula=EVENS, number=100), 50)
        most = 10 ** 40 - 1
        self.assertEqual(how_many_below(TRUE[1], most), most)
        self.assertEqual(how_many_below(EVENS, most), (most + 1) // 2)
        self.assertEqual(how_many_below(multiples(7, 1), most), (most + 6) // 7)
        self.assertEqual(how_many_below(POWERS, most), 133)
        self.assertEqual([how_many_below(POWERS, 2 ** 100), how_many_below(POWERS, 2 ** 100 + 1)], [100, 101])
        self.assertEqual(how_many_below(("not", TRUE[1]), most), 0)


class TooManyTest(Case):
    def test_as_many_as_can_be(self):
        made = reader_for(2, WITH_200)
        self.assertEqual(len(made), 200)
        for given in itertools.product(range(12), repeat=2):
            self.assertIs(fulfils(given, WITH_200), reckoned(WITH_200, given, 0))
        self.assertEqual(reader_for(2, ("some", WITH_200_OF_3)), made)
        self.assertEqual(reader_for(2, ("all", WITH_200_OF_3)), made)
        self.assertEqual(reader_for(2, ("not", ("not", WITH_200))), made)
        self.assertTrue(is_full(made))

    def test_too_many(self):
        told = [("reader_for", lambda formula: reader_for(2, formula)),
                ("fulfils", lambda formula: fulfils((1, 2), formula)),
                ("first_numbers", lambda formula: first_numbers(2, formula))]
        nothing = ("sum", (0, 0), "=", 1)
        for formula in (WITH_MORE, ("not", WITH_MORE), ("and", nothing, WITH_MORE), ("and", WITH_MORE, nothing),
                        ("or", TRUE[2], WITH_MORE), ("or", WITH_MORE, TRUE[2])):
            for _, call in told:
                self.fails(TooMany, lambda: call(formula), limit=200)
        # One of the formulas within has too many stands, though the whole one has few.
        for word in ("some", "all"):
            self.fails(TooMany, lambda: reader_for(1, (word, WITH_MORE)), limit=200)
            self.fails(TooMany, lambda: fulfils((1,), (word, WITH_MORE)), limit=200)
            self.fails(TooMany, lambda: how_many_below((word, WITH_MORE), 5), limit=200)
            for other in ("some", "all"):
                self.fails(TooMany, lambda: is_true((other, (word, WITH_MORE))), limit=200)
                self.fails(TooMany, lambda: fulfils((), (other, (word, WITH_MORE))), limit=200)
        within = ("some", ("some", WITH_MORE))
        for word, first in (("and", ("sum", (), "=", 1)), ("or", ("sum", (), "=", 0))):
            self.fails(TooMany, lambda: is_true((word, first, within)), limit=200)
            self.fails(TooMany, lambda: is_true((word, within, first)), limit=200)
        # Other errors come ahead of it.
        self.fails(InvalidNumber, lambda: how_many_below(("some", WITH_MORE), -1), given=-1)
        self.fails(InvalidTold, lambda: fulfils((-1, 1), WITH_MORE))


class WrongTest(Case):
    def test_formulas(self):
        for tracks in (1, 2, 3):
            self.fails_for_all(InvalidFormula, lambda given: reader_for(tracks, given), not_formulas(tracks))
            self.fails_for_all(InvalidFormula, lambda given: first_numbers(tracks, given), not_formulas(tracks))
        for many in range(4):
            self.fails_for_all(InvalidFormula, lambda given: fulfils((3,) * many, given), not_formulas(many))
            for other in range(4):
                if other != many:
                    self.fails(InvalidFormula, lambda: fulfils((3,) * many, TRUE[other]), given=TRUE[other])
        self.fails_for_all(InvalidFormula, is_true, not_formulas(0))
        self.fails_for_all(InvalidFormula, lambda given: how_many_below(given, -1), not_formulas(1))

    def test_other_values(self):
        for call in (reader_for, first_numbers):
            self.fails_for_all(InvalidNumber, lambda given: call(given, 5), WRONG_TRACKS)
        self.fails_for_all(InvalidTold, lambda given: fulfils(given, 5), WRONG_NUMBERS + NOT_READERS[:5])
        wrong = NOT_INTEGERS + [-1, 10 ** 40, 10 ** 59, -10 ** 59]
        self.fails_for_all(InvalidNumber, lambda given: how_many_below(EVENS, given), wrong)
