"""rowreaders.listing."""

from helpers import AB, EVEN, NOT_INTEGERS, NOT_READERS, NOT_ROWS, Case, chain, cycle, every_reader, row_order
from helpers import some_readers, yes_rows

from rowreaders import listing
from rowreaders.errors import InvalidNumber, InvalidRow, NotAReader, TooMany
from rowreaders.listing import count_of, is_endless, longest, number_of, row_at, rows_of
from rowreaders.readers import Reader, all_rows, no_rows, only

SMALL = list(every_reader(1, 2)) + some_readers(21, 60, 2, 4) + some_readers(22, 20, 3, 4)
WRONG_LENGTHS = NOT_INTEGERS + [-1, 201, 10 ** 59, -10 ** 59]
WRONG_NUMBERS = NOT_INTEGERS + [-1, 10 ** 40, 10 ** 59, -10 ** 59]


class PlainTest(Case):
    def test_against_lists(self):
        for reader in SMALL:
            most = 8 if reader.signs < 3 else 5
            rows = yes_rows(reader, most)
            for length in range(most + 1):
                fit = tuple(row for row in rows if len(row) == length)
                self.assertEqual(rows_of(reader, length), fit)
                self.assertEqual(count_of(reader, length), len(fit))
            for number in range(min(len(rows), 60)):
                self.assertEqual(row_at(reader, number), rows[number])
                self.assertEqual(number_of(reader, rows[number]), number)

    def test_no_rows_have_no_number(self):
        for reader in SMALL:
            rows = yes_rows(reader, 4)
            for row in yes_rows(all_rows(reader.signs), 4):
                self.assertEqual(number_of(reader, row), rows.index(row) if row in rows else None)

    def test_endless_and_longest(self):
        for reader in list(every_reader(1, 3)) + SMALL:
            rows = yes_rows(reader, 2 * len(reader))
            long = [row for row in rows if len(row) >= len(reader)]
            self.assertIs(is_endless(reader), bool(long))
            if long or not rows:
                self.assertIsNone(longest(reader))
            else:
                self.assertEqual(longest(reader), len(rows[-1]))
                self.assertIsNone(row_at(reader, len(rows)))
                self.assertIsNone(row_at(reader, 10 ** 40 - 1))
                self.assertEqual(row_at(reader, len(rows) - 1), rows[-1])

    def test_by_name(self):
        self.assertEqual(self.named(count_of, reader=EVEN, length=10), 512)
        self.assertEqual(self.named(rows_of, reader=EVEN, length=2), ("aa", "bb"))
        self.assertEqual(self.named(row_at, reader=EVEN, number=5), "aba")
        self.assertEqual(self.named(number_of, reader=EVEN, row="aba"), 5)
        self.assertIs(self.named(is_endless, reader=AB), True)
        self.assertEqual(self.named(longest, reader=only(2, ("ab", "a"))), 2)
        for name in ("count_of", "rows_of", "row_at", "number_of", "is_endless", "longest"):
            self.assertEqual(getattr(listing, name).__module__, "rowreaders.listing")


class CountTest(Case):
    def test_exact_and_great(self):
        for signs in range(1, 9):
            self.assertEqual(count_of(all_rows(signs), 200), signs ** 200)
        self.assertEqual(count_of(EVEN, 200), 2 ** 199)
        # Rows without two b's side by side: each number is the sum of the two ahead of it.
        numbers = [1, 2]
        while len(numbers) < 201:
            numbers.append(numbers[-1] + numbers[-2])
        apart = Reader(2, ((0, 1), (0, None)), (0, 1))
        for length in (0, 1, 2, 3, 57, 199, 200):
            self.assertEqual(count_of(apart, length), numbers[length])

    def test_edges(self):
        self.assertEqual([count_of(cycle(200), 0), count_of(cycle(200), 199), count_of(cycle(200), 200)], [1, 0, 1])
        self.assertEqual([count_of(no_rows(2), 0), count_of(all_rows(2), 0)], [0, 1])
        self.assertEqual(count_of(Reader(1, ((1,), (0,)), ()), 5), 0)

    def test_wrong_values(self):
        for call in (count_of, rows_of):
            self.fails_for_all(NotAReader, lambda given: call(given, -1), NOT_READERS)
            self.fails_for_all(InvalidNumber, lambda given: call(EVEN, given), WRONG_LENGTHS)


class RowsOfTest(Case):
    def test_a_thousand_and_more(self):
        # Two rows less than 1024, one more than 1000, just 1000.
        for many in (1000, 1001):
            reader = ThousandRows.reader(many)
            self.assertEqual(count_of(reader, 10), many)
            if many == 1000:
                self.assertEqual(rows_of(reader, 10), tuple(yes_rows(reader, 10)))
            else:
                self.fails(TooMany, lambda: rows_of(reader, 10), limit=1000)
        self.assertEqual(len(rows_of(all_rows(2), 9)), 512)
        self.fails(TooMany, lambda: rows_of(all_rows(2), 10), limit=1000)
        self.fails(TooMany, lambda: rows_of(all_rows(8), 200), limit=1000)
        self.fails(InvalidNumber, lambda: rows_of(all_rows(8), 201), given=201)

    def test_edges(self):
        self.assertEqual(rows_of(EVEN, 0), ("",))
        self.assertEqual(rows_of(AB, 0), ("",))
        self.assertEqual(rows_of(AB, 200), ("ab" * 100,))
        self.assertEqual(rows_of(AB, 199), ())
        self.assertEqual(rows_of(no_rows(2), 0), ())
        self.assertEqual(rows_of(no_rows(2), 200), ())


class ThousandRows:
    """Rows of ten signs that come, as figures in base two, ahead of a number."""

    @staticmethod
    def reader(number):
        figures = f"{number:010b}"
        arrows = []
        # Stand k: so far all figures are those of the number; stand 10 + k: it is less already.
        for at in range(10):
            arrows.append((at + 1, None) if figures[at] == "0" else (11 + at, at + 1))
        arrows.append((None, None))
        for at in range(9):
            arrows.append((12 + at, 12 + at))
        arrows.append((None, None))
        return Reader(2, tuple(arrows), (20,))


class RowAtTest(Case):
    def test_numbers_at_the_edges(self):
        self.assertEqual(row_at(all_rows(2), 0), "")
        self.assertEqual(row_at(only(2, ("b",)), 0), "b")
        self.assertIsNone(row_at(only(2, ("b",)), 1))
        self.assertIsNone(row_at(no_rows(1), 0))
        self.assertIsNone(row_at(no_rows(1), 10 ** 40 - 1))
        self.assertIsNone(row_at(Reader(1, ((0,),), ()), 10 ** 40 - 1))

    def test_exact_for_great_numbers(self):
        for reader in (all_rows(8), all_rows(2), EVEN, Reader(2, ((0, 1), (0, None)), (0, 1))):
            for number in (10 ** 9, 10 ** 20 + 7, 10 ** 39, 10 ** 40 - 1):
                row = row_at(reader, number)
                self.assertEqual(number_of(reader, row), number)
        # Of all rows of two signs the number is one less than the row read in base two behind a 1.
        number = 10 ** 40 - 1
        self.assertEqual(row_at(all_rows(2), number), f"{number + 1:b}"[1:].replace("0", "a").replace("1", "b"))

    def test_too_long_rows(self):
        self.assertEqual(row_at(all_rows(1), 200), "a" * 200)
        self.fails(TooMany, lambda: row_at(all_rows(1), 201), limit=200)
        self.fails(TooMany, lambda: row_at(all_rows(1), 10 ** 40 - 1), limit=200)
        self.assertEqual(row_at(AB, 100), "ab" * 100)
        self.fails(TooMany, lambda: row_at(AB, 101), limit=200)
        self.assertEqual(row_at(cycle(200), 1), "a" * 200)
        self.fails(TooMany, lambda: row_at(cycle(200), 2), limit=200)
        self.assertEqual(row_at(chain((0, 199)), 1), "a" * 199)
        self.assertIsNone(row_at(chain((0, 199)), 2))
        # A way round that leads to no end makes no rows.
        self.assertIsNone(row_at(Reader(2, ((1, 2), (1, 1), (None, None)), (2,)), 1))

    def test_wrong_values(self):
        self.fails_for_all(NotAReader, lambda given: row_at(given, -1), NOT_READERS)
        self.fails_for_all(InvalidNumber, lambda given: row_at(all_rows(1), given), WRONG_NUMBERS)


class NumberOfTest(Case):
    def test_edges(self):
        self.assertEqual(number_of(all_rows(1), "a" * 200), 200)
        self.assertEqual(number_of(all_rows(8), "h" * 200), sum(8 ** length for length in range(201)) - 1)
        self.assertEqual(number_of(all_rows(8), ""), 0)
        self.assertIsNone(number_of(no_rows(8), ""))
        self.assertIsNone(number_of(EVEN, "a" * 199))
        self.assertIsNone(number_of(AB, "b" * 200))

    def test_goes_with_the_order(self):
        rows = [row for row in yes_rows(EVEN, 7)]
        self.assertEqual([number_of(EVEN, row) for row in sorted(rows, key=row_order)], list(range(len(rows))))

    def test_wrong_values(self):
        self.fails_for_all(NotAReader, lambda given: number_of(given, 5), NOT_READERS)
        self.fails_for_all(InvalidRow, lambda given: number_of(EVEN, given), NOT_ROWS + ["c", "a" * 201])


class EndlessTest(Case):
    def test_edges(self):
        self.assertEqual([is_endless(no_rows(1)), longest(no_rows(1))], [False, None])
        self.assertEqual([is_endless(all_rows(1)), longest(all_rows(1))], [True, None])
        self.assertEqual([is_endless(only(1, ("",))), longest(only(1, ("",)))], [False, 0])
        self.assertEqual([is_endless(chain((199,))), longest(chain((199,)))], [False, 199])
        round_behind = Reader(1, ((1,), (2,), (2,)), (1,))
        round_apart = Reader(1, ((1,), (None,), (2,)), (1, 2))
        self.assertEqual([is_endless(round_behind), longest(round_behind)], [False, 1])
        self.assertEqual([is_endless(round_apart), longest(round_apart)], [False, 1])
        self.assertIs(is_endless(Reader(1, ((0,),), ())), False)

    def test_wrong_values(self):
        self.fails_for_all(NotAReader, is_endless, NOT_READERS)
        self.fails_for_all(NotAReader, longest, NOT_READERS)
