"""rowreaders.readers."""

import random

from helpers import AB, EVEN, NOT_INTEGERS, NOT_READERS, NOT_ROWS, STRANGE, Case, Stranger, chain, every_reader, goes
from helpers import is_yes, least_plainly, row_order, rows_up_to, some_reader, some_readers, useful_plainly, yes_rows

from rowreaders import readers
from rowreaders.errors import InvalidArrows, InvalidEnds, InvalidRow, InvalidSigns, InvalidTold, NotAReader, TooMany
from rowreaders.readers import Reader, all_rows, filled, first_yes, is_full, led_to, no_rows, only, says, useful

USELESS = Reader(2, ((1, 2), (None, None), (3, None), (None, 2), (0, 0)), (1,))


class ReaderTest(Case):
    def test_what_is_made_is_told_again(self):
        made = self.named(Reader, signs=2, arrows=((1, None), (None, 0)), ends=(0, 1))
        self.assertEqual((made.signs, made.arrows, made.ends, len(made)), (2, ((1, None), (None, 0)), (0, 1), 2))
        self.assertEqual(repr(made), "Reader(2 signs, 2 stands)")
        self.assertEqual(repr(Reader(1, ((None,),), ())), "Reader(1 signs, 1 stands)")
        self.assertTrue(made)
        self.assertTrue(Reader(1, ((None,),), ()))
        for name in ("signs", "arrows", "ends"):
            self.assertIsInstance(vars(Reader)[name], property)
            self.assertRaises(AttributeError, setattr, made, name, 1)

    def test_methods_are_its_own(self):
        for name in ("__init__", "__len__", "__repr__", "__eq__", "signs", "arrows", "ends"):
            self.assertIn(name, vars(Reader))
        for name in ("Reader", "led_to", "says", "useful", "first_yes", "all_rows", "no_rows", "only", "is_full",
                     "filled"):
            self.assertEqual(getattr(readers, name).__module__, "rowreaders.readers")

    def test_equality(self):
        same = Reader(2, ((1, 0), (0, 1)), (0,))
        self.assertTrue(EVEN == same)
        self.assertFalse(EVEN != same)
        for other in (Reader(2, ((1, 0), (0, 1)), (1,)), Reader(2, ((1, 0), (0, None)), (0,)), AB,
                      Reader(1, ((1,), (0,)), (0,)), Reader(2, ((1, 0), (0, 1), (0, 1)), (0,))):
            self.assertFalse(EVEN == other)
            self.assertTrue(EVEN != other)
        for other in (Stranger(), None, 2, "Reader(2 signs, 2 stands)", (2, EVEN.arrows, EVEN.ends), EVEN.arrows):
            self.assertFalse(EVEN == other)
            self.assertTrue(EVEN != other)
            self.assertFalse(other == EVEN)

    def test_numbers_of_stands_and_signs(self):
        for stands in (1, 200):
            self.assertEqual(len(Reader(1, ((0,),) * stands, ())), stands)
        self.fails_for_all(InvalidArrows, lambda given: Reader(1, given, ()), [(), ((0,),) * 201])
        for signs in range(1, 9):
            self.assertEqual(Reader(signs, ((0,) * signs,), ()).signs, signs)
        self.fails(InvalidSigns, lambda: Reader(0, ((),), ()), given=0)
        self.fails(InvalidSigns, lambda: Reader(9, ((0,) * 9,), ()), given=9)
        self.fails(InvalidSigns, lambda: Reader(True, ((0,),), ()), given=True)

    def test_wrong_signs(self):
        self.fails_for_all(InvalidSigns, lambda given: Reader(given, ((0, 0),), (0,)), NOT_INTEGERS + [-1, 10 ** 59])

    def test_wrong_arrows(self):
        wrong = [[(0, 0)], [[0, 0]], ([0, 0],), ((0,),), ((0, 0, 0),), ((0, 1),), ((0, -1),), ((0, "0"),), ((0, True),),
                 ((False, 0),), ((0, 0), (0, 2)), ((0, 0), (0,)), ((0, 0), None), ((0, 0), [0, 0]), ((0, (0,)),), "ab",
                 ((0, 0), "ab"), (("a", "b"),), ((0, EVEN),), EVEN]
        self.fails_for_all(InvalidArrows, lambda given: Reader(2, given, (0,)), STRANGE + wrong)

    def test_wrong_ends(self):
        wrong = [[0], (1, 0), (0, 0), (2,), (-1,), (0, 2), (True,), (False,), (0, True), (0, None), ("0",), ((0,),),
                 (0, 1, 1), 0, {0}, {0: 0}, "0", EVEN]
        wrong += [thing for thing in STRANGE if thing != ()]
        self.fails_for_all(InvalidEnds, lambda given: Reader(2, ((0, 1), (1, 0)), given), wrong)
        for ends in ((), (0,), (1,), (0, 1)):
            self.assertEqual(Reader(2, ((0, 1), (1, 0)), ends).ends, ends)

    def test_the_first_error_that_is_due(self):
        self.fails(InvalidSigns, lambda: Reader(9, "arrows", "ends"), given=9)
        self.fails(InvalidArrows, lambda: Reader(2, "arrows", "ends"), given="arrows")
        self.fails(InvalidArrows, lambda: Reader(ends="ends", arrows="arrows", signs=1), given="arrows")
        self.fails(InvalidEnds, lambda: Reader(2, ((0, 0),), "ends"), given="ends")


class LedTest(Case):
    def test_plainly(self):
        for reader in list(every_reader(1, 2)) + some_readers(1, 40, 2, 5) + [USELESS]:
            for row in rows_up_to(reader.signs, 5):
                self.assertEqual(led_to(reader, row), goes(reader, 0, row))
                self.assertIs(says(reader, row), is_yes(reader, row))

    def test_by_name(self):
        self.assertEqual(self.named(led_to, reader=EVEN, row="ab"), 1)
        self.assertIs(self.named(says, reader=EVEN, row="ab"), False)

    def test_long_rows(self):
        self.assertEqual(led_to(EVEN, "a" * 200), 0)
        self.assertIs(says(EVEN, "a" * 199 + "b"), False)
        for call in (led_to, says):
            self.fails_for_all(InvalidRow, lambda given: call(EVEN, given), ["a" * 201, "b" * 4000])

    def test_wrong_values(self):
        for call in (led_to, says):
            self.fails_for_all(NotAReader, lambda given: call(given, "a"), NOT_READERS)
            self.fails_for_all(InvalidRow, lambda given: call(EVEN, given), NOT_ROWS + ["c", "abc", "ab c", "b" * 201])
            self.fails(NotAReader, lambda: call("reader", "no row"), given="reader")
        self.fails(InvalidRow, lambda: says(all_rows(1), "b"), given="b")
        self.assertTrue(says(all_rows(8), "abcdefgh"))


class UsefulTest(Case):
    def test_plainly(self):
        for reader in list(every_reader(1, 3)) + some_readers(2, 100, 2, 6) + [USELESS]:
            self.assertEqual(useful(reader), tuple(useful_plainly(reader)))
        self.assertEqual(self.named(useful, reader=USELESS), (0, 1))

    def test_no_ends(self):
        self.assertEqual(useful(Reader(2, ((1, 0), (0, 1)), ())), ())
        self.assertEqual(useful(Reader(1, ((0,), (1,)), (1,))), ())

    def test_wrong_values(self):
        for call in (useful, first_yes, is_full, filled):
            self.fails_for_all(NotAReader, call, NOT_READERS)


class FirstYesTest(Case):
    def test_plainly(self):
        for reader in list(every_reader(1, 3)) + list(every_reader(2, 2)) + some_readers(3, 100, 2, 5):
            found = yes_rows(reader, len(reader) - 1)
            self.assertEqual(first_yes(reader), found[0] if found else None)

    def test_edges(self):
        self.assertEqual(self.named(first_yes, reader=USELESS), "a")
        self.assertEqual(first_yes(all_rows(1)), "")
        self.assertIsNone(first_yes(no_rows(8)))
        self.assertEqual(first_yes(chain((199,))), "a" * 199)
        # Of two rows of one length the one that Python puts first, though its first sign is found later.
        self.assertEqual(first_yes(Reader(2, ((2, 1), (3, 3), (None, 3), (None, None)), (3,))), "ab")


class RowsTest(Case):
    def test_all_and_none(self):
        for signs in range(1, 9):
            self.assertEqual(self.named(all_rows, signs=signs), Reader(signs, ((0,) * signs,), (0,)))
            self.assertEqual(self.named(no_rows, signs=signs), Reader(signs, ((None,) * signs,), ()))

    def test_wrong_signs(self):
        for call in (all_rows, no_rows, lambda given: only(given, ()), lambda given: only(given, "rows")):
            self.fails_for_all(InvalidSigns, call, NOT_INTEGERS + [0, 9, -1, 10 ** 59, -10 ** 59])

    def test_only_plainly(self):
        chance = random.Random(4)
        for _ in range(60):
            signs = chance.randint(1, 3)
            every = list(rows_up_to(signs, 4))
            rows = tuple(chance.choice(every) for _ in range(chance.randint(0, 8)))
            made = only(signs, rows)
            self.assertEqual(yes_rows(made, 6), sorted(set(rows), key=row_order))
            self.assertEqual((made.arrows, made.ends), least_plainly(made))

    def test_only_edges(self):
        self.assertEqual(self.named(only, signs=2, rows=()), no_rows(2))
        self.assertEqual(only(2, ("",)), Reader(2, ((None, None),), (0,)))
        self.assertEqual(only(2, ("ab", "", "ab", "")), only(2, ("", "ab")))
        self.assertEqual(len(only(1, ("a" * 12,))), 13)
        rows = tuple("abcdefgh"[at // 8] + "abcdefgh"[at % 8] for at in range(40))
        self.assertEqual(yes_rows(only(8, rows), 3), sorted(rows))
        self.assertEqual(only(8, ("a",) * 40), only(8, ("a",)))

    def test_only_wrong_rows(self):
        wrong = [["a"], "a", ("a", 1), ("a", None), ("a", "c"), ("i",), ("A",), ("a" * 13,), ("a",) * 41, (("a",),),
                 {"a"}, {"a": 1}, ("a", b"a"), ("a", ["a"]), (True,), EVEN]
        wrong += [thing for thing in STRANGE if thing not in ((), ("",))]
        self.fails_for_all(InvalidTold, lambda given: only(2, given), wrong)
        wrong = ("a", "b")
        self.fails(InvalidTold, lambda: only(1, wrong), given=wrong)

    def test_only_too_many_stands(self):
        # Seed 12 has 200 stands for its first 21 rows, seed 7 has 201 for as many.
        for seed, stands in ((12, 200), (7, 201)):
            chance = random.Random(seed)
            rows = tuple("".join(chance.choice("abcdefgh") for _ in range(12)) for _ in range(40))
            rests = {frozenset(other[at:] for other in rows[:21] if other.startswith(row[:at]))
                     for row in rows[:21] for at in range(13)}
            self.assertEqual(len(rests), stands)
            if stands <= 200:
                self.assertEqual(len(only(8, rows[:21])), stands)
            else:
                self.fails(TooMany, lambda: only(8, rows[:21]), limit=200)
            self.fails(TooMany, lambda: only(8, rows), limit=200)
            wrong = rows[:39] + ("a" * 13,)
            self.fails(InvalidTold, lambda: only(8, wrong), given=wrong)


class FilledTest(Case):
    def test_is_full(self):
        for reader in list(every_reader(1, 2)) + some_readers(6, 60, 2, 4):
            self.assertIs(is_full(reader), all(goal is not None for goals in reader.arrows for goal in goals))
        self.assertIs(self.named(is_full, reader=AB), False)

    def test_full_ones_stay(self):
        for reader in (EVEN, all_rows(3), some_reader(random.Random(7), 2, 200, 0)):
            self.assertEqual(filled(reader), reader)

    def test_one_stand_more(self):
        for reader in list(every_reader(1, 2)) + some_readers(8, 60, 2, 4) + [AB, USELESS, no_rows(2)]:
            made = self.named(filled, reader=reader)
            if is_full(reader):
                self.assertEqual(made, reader)
                continue
            last = len(reader)
            arrows = tuple(tuple(last if goal is None else goal for goal in goals) for goals in reader.arrows)
            self.assertEqual(made, Reader(reader.signs, arrows + ((last,) * reader.signs,), reader.ends))

    def test_many_stands(self):
        self.assertEqual(len(filled(chain((198,)))), 200)
        self.assertEqual(len(chain((199,))), 200)
        self.fails(TooMany, lambda: filled(chain((199,))), limit=200)
