"""rowreaders.leading."""

import random

from helpers import AB, EVEN, NOT_INTEGERS, NOT_READERS, NOT_ROWS, Case, cycle, every_reader, goes, is_yes
from helpers import least_plainly, rows_up_to, some_reader

from rowreaders import leading
from rowreaders.errors import InvalidRow, InvalidStand, NotAReader, NotFull, TooMany
from rowreaders.leading import fewest_left, joining_row, joins, parting_row, reset_row, reset_rows, said_along
from rowreaders.leading import telling_row
from rowreaders.readers import Reader, all_rows, is_full, no_rows

THREE = Reader(2, ((1, 1), (2, 1), (0, 2)), (0,))


def full_readers(seed, many, signs, most):
    chance = random.Random(seed)
    return [some_reader(chance, signs, chance.randint(1, most), 0) for _ in range(many)]


SMALL = [reader for stands in (1, 2, 3) for reader in every_reader(1, stands) if is_full(reader)]
SMALL += [reader for reader in every_reader(2, 2) if is_full(reader)]
SMALL += full_readers(191, 80, 2, 4) + full_readers(192, 20, 3, 4) + [THREE]
MOST = {1: 8, 2: 6, 3: 5}


def slow_reset(many):
    """Stands in a circle, of which b leads one to the next one: to reset it takes (many - 1) ** 2 signs."""
    return Reader(2, tuple(((at + 1) % many, 1 if at == 0 else at) for at in range(many)), (0,))


def goals(reader, row):
    return {goes(reader, stand, row) for stand in range(len(reader))}


def said_plainly(reader, stand, row):
    return tuple(goes(reader, stand, row[:at]) in reader.ends for at in range(len(row) + 1))


def tells(reader, row):
    """Whether what is said along the row tells the stand behind it."""
    behind = {}
    for stand in range(len(reader)):
        behind.setdefault(said_plainly(reader, stand, row), set()).add(goes(reader, stand, row))
    return all(len(stands) == 1 for stands in behind.values())


def parts(reader, row):
    """Whether what is said along the row tells the stand at which it began."""
    return len({said_plainly(reader, stand, row) for stand in range(len(reader))}) == len(reader)


class LeadingCase(Case):
    def check_first(self, found, rows, fits, most):
        """That a row is the first one that fits, as far as these rows tell it."""
        fit = [row for row in rows if fits(row)]
        if fit:
            self.assertEqual(found, fit[0])
        elif found is not None:
            self.assertGreater(len(found), most)
            self.assertTrue(fits(found))

    def check_limits(self, call, most):
        """That the reader must be full, and then have this many stands at most."""
        self.fails(NotFull, lambda: call(AB))
        self.fails(NotFull, lambda: call(Reader(1, ((1,),) * 199 + ((None,),), ())))
        call(cycle(most))
        self.fails(TooMany, lambda: call(cycle(most + 1)), limit=most)
        self.fails(TooMany, lambda: call(cycle(200, 8)), limit=most)
        # All stands count, not those of the least reader alone.
        self.fails(TooMany, lambda: call(Reader(1, ((0,),) * (most + 1), (0,))), limit=most)


class ResetTest(LeadingCase):
    def test_plainly(self):
        none = 0
        for reader in SMALL:
            most = MOST[reader.signs]
            rows = list(rows_up_to(reader.signs, most))
            found = reset_row(reader)
            self.check_first(found, rows, lambda row: len(goals(reader, row)) == 1, most)
            none += found is None
            fewest = min(len(goals(reader, row)) for row in rows)
            self.assertLessEqual(fewest_left(reader), fewest)
            if reader.signs < 3 and len(reader) < 4:
                self.assertEqual(fewest_left(reader), fewest)
            self.assertIs(fewest_left(reader) == 1, found is not None)
            made = reset_rows(reader)
            self.assertEqual(made.signs, reader.signs)
            self.assertEqual((made.arrows, made.ends), least_plainly(made))
            for row in rows:
                self.assertIs(is_yes(made, row), len(goals(reader, row)) == 1)
            if found is None:
                self.assertEqual(made, no_rows(reader.signs))
        self.assertGreater(none, 10)

    def test_edges(self):
        self.assertEqual(self.named(reset_row, reader=THREE), "baab")
        self.assertEqual(self.named(fewest_left, reader=EVEN), 2)
        self.assertIs(is_yes(self.named(reset_rows, reader=THREE), "baab"), True)
        one = Reader(3, ((0, 0, 0),), ())
        self.assertEqual([reset_row(one), fewest_left(one), reset_rows(one)], ["", 1, all_rows(3)])
        self.assertEqual([reset_row(cycle(12)), fewest_left(cycle(12)), reset_rows(cycle(12, 8))],
                         [None, 12, no_rows(8)])
        # Stands count that no row leads to from stand 0.
        self.assertEqual(reset_row(Reader(1, ((0,), (0,)), ())), "a")
        self.assertEqual(fewest_left(Reader(1, ((0,), (1,)), ())), 2)

    def test_long_rows(self):
        for many in (4, 8, 12):
            reader = slow_reset(many)
            row = reset_row(reader)
            self.assertEqual(len(row), (many - 1) ** 2)
            self.assertEqual(len(goals(reader, row)), 1)
            self.assertEqual(fewest_left(reader), 1)
            self.assertEqual(row, "b" + ("a" * (many - 1) + "b") * (many - 2))
        self.assertEqual(len(reset_row(slow_reset(12))), 121)
        # One that resets by ends alone, as eleven stands are left behind one by one.
        line = Reader(2, tuple((at, max(at - 1, 0)) for at in range(12)), (0,))
        self.assertEqual(reset_row(line), "b" * 11)
        self.assertEqual(len(reset_rows(line)), 12)

    def test_too_many_stands_of_reset_rows(self):
        # A stand for each lot of several stands, and one for all single ones.
        self.assertEqual(len(reset_rows(slow_reset(7))), 2 ** 7 - 7)
        self.fails(TooMany, lambda: reset_rows(slow_reset(8)), limit=200)
        self.fails(TooMany, lambda: reset_rows(slow_reset(12)), limit=200)
        self.fails(TooMany, lambda: reset_rows(slow_reset(13)), limit=12)

    def test_errors(self):
        for call in (reset_row, fewest_left, reset_rows):
            self.fails_for_all(NotAReader, call, NOT_READERS)
            self.check_limits(call, 12)
        for name in ("reset_row", "joins", "joining_row", "fewest_left", "reset_rows", "telling_row", "parting_row",
                     "said_along"):
            self.assertEqual(getattr(leading, name).__module__, "rowreaders.leading")


class JoinTest(LeadingCase):
    def test_plainly(self):
        for reader in SMALL:
            most = MOST[reader.signs]
            rows = list(rows_up_to(reader.signs, most))
            for one in range(len(reader)):
                for other in range(len(reader)):
                    found = joining_row(reader, one, other)
                    self.check_first(found, rows, lambda row: goes(reader, one, row) == goes(reader, other, row), most)
                    self.assertIs(joins(reader, one, other), found is not None)

    def test_edges(self):
        self.assertEqual(self.named(joining_row, reader=THREE, one=0, other=2), "ab")
        self.assertIs(self.named(joins, reader=THREE, one=0, other=2), True)
        self.assertEqual([joins(EVEN, 0, 1), joining_row(EVEN, 0, 1)], [False, None])
        for stand in (0, 1):
            self.assertEqual([joins(EVEN, stand, stand), joining_row(EVEN, stand, stand)], [True, ""])
        self.assertEqual(joining_row(slow_reset(12), 3, 9), "aaab" + ("a" * 11 + "b") * 5)
        # Two stands may be joined, though not all of them.
        both = Reader(1, ((2,), (2,), (2,), (3,)), ())
        self.assertEqual([joining_row(both, 0, 1), joining_row(both, 1, 3), reset_row(both)], ["a", None, None])

    def test_errors(self):
        wrong = NOT_INTEGERS + [-1, 2, 12, 10 ** 59, -10 ** 59]
        for call in (joins, joining_row):
            self.fails_for_all(NotAReader, lambda given: call(given, 5, 5), NOT_READERS)
            self.fails_for_all(InvalidStand, lambda given: call(EVEN, given, 5), wrong)
            self.fails_for_all(InvalidStand, lambda given: call(EVEN, 1, given), wrong)
            self.fails(InvalidStand, lambda: call(AB, 0, 2), given=2)
            self.fails(InvalidStand, lambda: call(cycle(200), 200, 5), given=200)
            self.check_limits(lambda reader: call(reader, 0, 1), 12)


class SaidTest(LeadingCase):
    def test_telling_and_parting(self):
        kinds = []
        for reader in SMALL + full_readers(193, 40, 2, 6):
            most = MOST[reader.signs]
            rows = list(rows_up_to(reader.signs, most))
            self.check_first(telling_row(reader), rows, lambda row: tells(reader, row), most)
            self.check_first(parting_row(reader), rows, lambda row: parts(reader, row), most)
            kinds.append((telling_row(reader) is None, parting_row(reader) is None))
        self.assertGreaterEqual(set(kinds), {(True, True), (False, True), (False, False)})
        self.assertNotIn((True, False), kinds)

    def test_said(self):
        for reader in SMALL:
            for row in rows_up_to(reader.signs, 4):
                for stand in range(len(reader)):
                    found = said_along(reader, stand, row)
                    self.assertEqual(found, said_plainly(reader, stand, row))
                    self.assertTrue(all(type(each) is bool for each in found))

    def test_edges(self):
        self.assertEqual([self.named(telling_row, reader=THREE), self.named(parting_row, reader=THREE)], ["a", "a"])
        self.assertEqual(self.named(said_along, reader=THREE, one=2, row="ab"), (False, True, False))
        one = Reader(2, ((0, 0),), (0,))
        self.assertEqual([telling_row(one), parting_row(one), said_along(one, 0, "")], ["", "", (True,)])
        # Where nothing is ever said but the same, a row tells only if it leads all to one.
        silent = Reader(2, ((1, 0), (1, 1)), ())
        self.assertEqual([telling_row(silent), parting_row(silent)], ["a", None])
        self.assertEqual([telling_row(Reader(1, ((1,), (0,)), ())), parting_row(Reader(1, ((1,), (0,)), ()))],
                         [None, None])
        # Three stands joined two by two, so that one never knows where it began.
        joined = Reader(1, ((1,), (2,), (2,)), (2,))
        self.assertEqual([telling_row(joined), parting_row(joined)], ["a", "a"])
        both = Reader(1, ((2,), (2,), (2,)), (2,))
        self.assertEqual([telling_row(both), parting_row(both)], ["a", None])
        self.assertEqual(said_along(cycle(12), 11, "a" * 200), tuple(at % 12 == 1 for at in range(201)))
        self.assertEqual([telling_row(cycle(8)), parting_row(cycle(8))], ["a" * 6, "a" * 6])

    def test_eight_stands(self):
        chance = random.Random(194)
        told = 0
        for _ in range(60):
            signs = chance.choice([1, 2, 3, 8])
            turns = [chance.sample(range(8), 8) if chance.random() < 0.8 else [chance.randrange(8) for _ in range(8)]
                     for _ in range(signs)]
            reader = Reader(signs, tuple(zip(*turns)), tuple(sorted(chance.sample(range(8), chance.randint(1, 4)))))
            for found, fits in ((telling_row(reader), tells), (parting_row(reader), parts)):
                if found is not None:
                    told += 1
                    self.assertTrue(fits(reader, found))
                    most = min(len(found) - 1, {1: 20, 2: 7, 3: 4, 8: 2}[signs])
                    self.assertFalse(any(fits(reader, row) for row in rows_up_to(signs, most)))
        self.assertGreater(told, 60)

    def test_errors(self):
        for call in (telling_row, parting_row):
            self.fails_for_all(NotAReader, call, NOT_READERS)
            self.check_limits(call, 8)
        self.fails_for_all(NotAReader, lambda given: said_along(given, 5, 5), NOT_READERS)
        self.fails_for_all(InvalidStand, lambda given: said_along(EVEN, given, 5), NOT_INTEGERS + [-1, 2, 10 ** 59])
        self.fails_for_all(InvalidRow, lambda given: said_along(EVEN, 1, given), NOT_ROWS + ["c", "a" * 201])
        self.fails(InvalidRow, lambda: said_along(AB, 1, "c"), given="c")
        self.check_limits(lambda reader: said_along(reader, 0, "aa"), 12)
