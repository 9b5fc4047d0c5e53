"""rowreaders.rounds."""

import random

from helpers import Case, LETTERS, chain, is_yes, some_reader
from test_numbers import EVENS, POWERS, TRUE, WITH_MORE, multiples, not_formulas, row_plainly, some_formulas

from rowreaders import rounds
from rowreaders.errors import InvalidFormula, TooMany
from rowreaders.numbers import fulfils, reader_for
from rowreaders.readers import Reader, all_rows, no_rows, only
from rowreaders.rounds import greatest, round_of_numbers

MOST = 640


def within(reader):
    """The formula of the numbers that a reader tells."""
    return "in", 0, reader


def told(formula, most=MOST):
    """For each number below most whether it fulfils a formula of one number."""
    made = reader_for(1, formula)
    return [is_yes(made, row_plainly([number])) for number in range(most)]


def some_within(seed, many):
    """Formulas of readers made by chance, mostly of numbers that do not go round."""
    chance = random.Random(seed)
    return [within(some_reader(chance, 2, chance.randint(1, 6), chance.choice([0, 0.2, 0.5]))) for _ in range(many)]


def some_few(seed, many):
    """Formulas of a few numbers made by chance, alone or beside all numbers that go round."""
    chance = random.Random(seed)
    found = []
    while len(found) < many:
        rows = tuple("".join(chance.choice("ab") for _ in range(chance.randint(0, 9))) for _ in range(2))
        if len(only(2, rows)) <= 12:
            few = within(only(2, rows))
            found += [few, ("not", few), ("or", few, multiples(chance.randint(2, 9), 1))]
    return found


SMALL = some_formulas(181, 120, 1) + some_within(182, 120) + some_few(183, 90)
SMALL += [multiples(number, factor) for number in range(1, 10) for factor in (1, 2, 6)]
SMALL += [(word, multiples(one, 1), multiples(two, 1)) for word in ("and", "or") for one in (2, 3, 4, 6)
          for two in (5, 7, 8, 9)]
SMALL += [("and", multiples(number, 1), ("sum", (-1,), "<=", -50)) for number in range(2, 9)]


class RoundTest(Case):
    def test_against_going_through_numbers(self):
        kinds = []
        for formula in SMALL:
            found = round_of_numbers(formula)
            fits = told(formula)
            kinds.append(found)
            if found is None:
                for period in range(1, 70):
                    self.assertTrue(any(fits[at] != fits[at + period] for at in range(64, MOST - period)))
                continue
            period, begin = found
            self.assertEqual([type(period), type(begin)], [int, int])
            if begin + 2 * period > MOST:
                continue
            self.assertTrue(all(fits[at] == fits[at + period] for at in range(begin, MOST - period)))
            if begin:
                self.assertNotEqual(fits[begin - 1], fits[begin - 1 + period])
            for less in range(1, period):
                self.assertTrue(any(fits[at] != fits[at + less] for at in range(begin, MOST - less)))
        self.assertGreater(kinds.count(None), 30)
        self.assertGreater(len({found for found in kinds if found is not None}), 40)

    def test_edges(self):
        self.assertEqual(self.named(round_of_numbers, formula=EVENS), (2, 0))
        self.assertIsNone(round_of_numbers(POWERS))
        self.assertEqual([round_of_numbers(TRUE[1]), round_of_numbers(("not", TRUE[1]))], [(1, 0), (1, 0)])
        self.assertEqual(round_of_numbers(("sum", (1,), "<=", 7)), (1, 8))
        self.assertEqual(round_of_numbers(("sum", (1,), "=", 0)), (1, 1))
        self.assertEqual(round_of_numbers(("not", ("sum", (1,), "=", 0))), (1, 1))
        self.assertEqual(round_of_numbers(("sum", (-1,), "<=", -99)), (1, 99))
        self.assertEqual(round_of_numbers(multiples(9, 1)), (9, 0))
        # Multiples of 5 * 7, and of 8: odd and even periods together, and a number told otherwise.
        self.assertEqual(round_of_numbers(("and", multiples(5, 1), multiples(7, 1))), (35, 0))
        self.assertEqual(round_of_numbers(("and", multiples(5, 1), ("and", multiples(7, 1), multiples(4, 1)))),
                         (140, 0))
        self.assertEqual(round_of_numbers(("or", multiples(8, 1), ("sum", (1,), "=", 77))), (8, 78))
        self.assertEqual(round_of_numbers(("and", multiples(3, 1), ("not", ("sum", (1,), "=", 0)))), (3, 1))
        self.assertEqual(round_of_numbers(("and", multiples(6, 1), ("not", ("sum", (1,), "=", 60)))), (6, 61))
        # A period that no smaller one but a half of it makes short: 6, where 2 and 3 are told apart.
        self.assertEqual(round_of_numbers(("or", multiples(2, 1), multiples(3, 1))), (6, 0))
        self.assertEqual(round_of_numbers(("or", multiples(2, 1), multiples(4, 1))), (2, 0))

    def test_great_ones(self):
        # The first signs alone matter: periods that are powers of two.
        for many in (1, 5, 11):
            first = Reader(2, tuple((at + 1, at + 1) for at in range(many - 1)) + ((None, many), (many, many)), (many,))
            found = round_of_numbers(within(first))
            self.assertEqual(found, (2 ** many, 0))
        # Finitely many numbers, the last one far away.
        self.assertEqual(round_of_numbers(within(chain((11,), 2))), (1, 2 ** 11))
        self.assertEqual(round_of_numbers(("not", within(chain((11,), 2)))), (1, 2 ** 11))
        far = ("some", ("and", ("sum", (1, -9), "=", -8), ("in", 1, chain((11,), 2))))
        self.assertEqual(round_of_numbers(far), (1, 9 * 2047 - 8 + 1))
        self.assertEqual(greatest(far), 9 * 2047 - 8)

    def test_nearly_going_round(self):
        # Numbers with evenly many b's, with evenly many a's ahead of them, of even length, without two a's in a row.
        for reader in (Reader(2, ((0, 1), (1, 0)), (0,)), Reader(2, ((1, 2), (0, None), (2, 2)), (2,)),
                       Reader(2, ((1, 1), (0, 0)), (0,)), Reader(2, ((1, 0), (2, 0), (2, 2)), (0, 1))):
            self.assertIsNone(round_of_numbers(within(reader)))
        # Both ways to write numbers as rows of a reader that goes round.
        by_three = Reader(2, ((0, 1), (2, 0), (1, 2)), (0,))
        self.assertIsNone(round_of_numbers(within(Reader(2, ((0, 1), (2, 0), (1, None)), (0,)))))
        self.assertEqual(round_of_numbers(within(by_three)), (3, 0))

    def test_errors(self):
        for call in (greatest, round_of_numbers):
            self.fails_for_all(InvalidFormula, call, not_formulas(1))
            for many in (0, 2, 3):
                self.fails(InvalidFormula, lambda: call(TRUE[many]), given=TRUE[many])
            for word in ("some", "all"):
                self.fails(TooMany, lambda: call((word, WITH_MORE)), limit=200)
            self.assertEqual(getattr(rounds, call.__name__).__module__, "rowreaders.rounds")


class GreatestTest(Case):
    def test_against_going_through_numbers(self):
        kinds = []
        for formula in SMALL:
            found = greatest(formula)
            fits = [number for number, fit in enumerate(told(formula)) if fit]
            kinds.append(found)
            if found is not None:
                self.assertIs(fulfils((found,), formula), True)
                self.assertTrue(fits[-1] == found if found < MOST else fits == [] or fits[-1] < found)
                self.assertEqual(round_of_numbers(formula), (1, found + 1))
            elif fits:
                period = round_of_numbers(formula)
                self.assertTrue(period is None or period[0] > 1 or fits[-1] == MOST - 1)
            else:
                self.assertEqual(reader_for(1, formula), no_rows(2))
        self.assertGreater(len(set(kinds)), 12)

    def test_edges(self):
        self.assertEqual(self.named(greatest, formula=("sum", (1,), "<=", 7)), 7)
        self.assertIsNone(greatest(EVENS))
        self.assertIsNone(greatest(POWERS))
        self.assertIsNone(greatest(TRUE[1]))
        self.assertIsNone(greatest(("not", TRUE[1])))
        self.assertIsNone(greatest(("sum", (2,), "=", 3)))
        self.assertEqual([greatest(("sum", (1,), "=", 0)), greatest(("sum", (1,), "<=", 0))], [0, 0])
        self.assertEqual([greatest(("sum", (1,), "=", 99)), greatest(("sum", (9,), "<=", 99))], [99, 11])
        self.assertEqual(greatest(within(chain((3, 11), 2))), 2047)
        self.assertEqual(greatest(within(only(2, ("aab", "bab", "bb")))), 5)
        # Rows that end with a are no shortest rows, so they tell no numbers.
        self.assertEqual(greatest(within(only(2, ("aab", "bbba")))), 4)
        self.assertIsNone(greatest(within(only(2, ("aa", "bba")))))
        self.assertEqual(greatest(within(only(2, ("", "bba")))), 0)
        self.assertIsNone(greatest(within(all_rows(2))))
        self.assertEqual(LETTERS[:2], "ab")
