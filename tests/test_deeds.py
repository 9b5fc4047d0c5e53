"""rowreaders.deeds."""

import random

from helpers import AB, EVEN, NOT_INTEGERS, NOT_READERS, NOT_ROWS, Case, chain, cycle, every_reader, goes, is_yes
from helpers import row_order, rows_up_to, some_reader, some_readers, with_useless, yes_rows

from rowreaders import deeds
from rowreaders.deeds import by_first, by_last, deed_of, deeds_of, exchange_pair, group_row, is_groupfree, is_strewn
from rowreaders.deeds import round_of, unlike_looks, unlike_strewn
from rowreaders.errors import InvalidNumber, InvalidRow, NotAReader, TooMany
from rowreaders.likeness import least
from rowreaders.making import other_rows
from rowreaders.readers import Reader, all_rows, filled, no_rows, only

SMALL = list(every_reader(1, 2)) + some_readers(101, 60, 2, 4) + some_readers(102, 15, 3, 3)
SMALL += [no_rows(2), all_rows(2), EVEN, AB, filled(AB), only(2, ("ab", "a", "")), cycle(5), cycle(4, 2)]
SMALL += [with_useless(reader) for reader in SMALL[:40]]
# These have just so many deeds; the second one of each has missing arrows.
WITH_500 = [Reader(3, ((0, 1, 2), (0, 3, 4), (1, 4, 4), (2, 1, 1), (3, 0, 2)), (0, 1, 3, 4)),
            Reader(3, ((1, 2, 3), (2, 0, None), (2, 3, 2), (None, 2, 4), (5, 4, None), (1, 1, None)), (2,))]
WITH_501 = [Reader(3, ((1, 2, 3), (1, 2, 2), (4, 4, 4), (3, 3, 0), (1, 5, 4), (2, 4, 1)), (1, 2)),
            Reader(3, ((1, 0, 2), (0, None, 0), (3, 4, 2), (1, 0, 3), (5, 2, 1), (None, 2, 1)), (3, 5))]
NAMES = ("deed_of", "deeds_of", "round_of", "is_groupfree", "group_row", "exchange_pair", "by_last", "by_first",
         "unlike_looks", "unlike_strewn", "is_strewn")
WRONG_SIZES = NOT_INTEGERS + [0, 4, -1, 10 ** 59, -10 ** 59, "a", (1, 2)]


def deed_plainly(reader, row):
    made = least(reader)
    return tuple(goes(made, stand, row) for stand in range(len(made)))


def deeds_plainly(reader, most):
    """Each deed of rows up to this length with its first row, and whether longer rows have no others."""
    found = {}
    for row in rows_up_to(reader.signs, most):
        found.setdefault(deed_plainly(reader, row), row)
    ended = all(len(row) < most for row in found.values())
    return tuple((row, deed) for deed, row in found.items()), ended


def round_plainly(reader, row):
    met = []
    while deed_plainly(reader, row * len(met)) not in met:
        met.append(deed_plainly(reader, row * len(met)))
    first = met.index(deed_plainly(reader, row * len(met)))
    return first, len(met) - first


def look_plainly(row, size):
    if len(row) < size:
        return row
    pieces = {row[at:at + size] for at in range(len(row) - size + 1)}
    return row[:size - 1], row[len(row) - size + 1:], frozenset(pieces)


def strewn_plainly(row, size):
    found = {""}
    for sign in row:
        found |= {piece + sign for piece in found if len(piece) < size}
    return frozenset(found)


def many_marks(signs, most, mark):
    """How many marks rows up to this length have."""
    return len({mark(row) for row in rows_up_to(signs, most)})


class DeedTest(Case):
    def test_against_walking(self):
        for reader in SMALL:
            for row in rows_up_to(reader.signs, 4 if reader.signs < 3 else 3):
                self.assertEqual(deed_of(reader, row), deed_plainly(reader, row))

    def test_all_deeds(self):
        ended_ones = 0
        for reader in SMALL:
            most = {1: 12, 2: 8, 3: 5}[reader.signs]
            rows, ended = deeds_plainly(reader, most)
            found = deeds_of(reader)
            self.assertEqual(found[0], ("", tuple(range(len(least(reader))))))
            self.assertEqual(len({deed for _, deed in found}), len(found))
            self.assertEqual([row for row, _ in found], sorted([row for row, _ in found], key=row_order))
            if ended:
                ended_ones += 1
                self.assertEqual(found, rows)
            else:
                self.assertEqual(found[:len(rows)], rows)
        self.assertGreater(ended_ones, len(SMALL) * 3 // 4)

    def test_edges(self):
        self.assertEqual(self.named(deed_of, reader=AB, row="aba"), (1, None))
        self.assertEqual(self.named(deeds_of, reader=EVEN), (("", (0, 1)), ("a", (1, 0))))
        self.assertEqual(deeds_of(no_rows(2)), (("", (0,)), ("a", (None,))))
        self.assertEqual(deeds_of(all_rows(8)), (("", (0,)),))
        self.assertEqual(len(deeds_of(cycle(200))), 200)
        self.assertEqual(deeds_of(chain((199,)))[200], ("a" * 200, (None,) * 200))
        self.assertEqual(deed_of(cycle(200), "a" * 200), tuple(range(200)))
        self.assertEqual(deed_of(only(1, ("",)), ""), (0,))

    def test_as_many_as_told_and_one_more(self):
        calls = [deeds_of, is_groupfree, group_row, is_strewn, lambda reader: round_of(reader, "ab")]
        for reader in WITH_500:
            self.assertEqual(len(deeds_of(reader)), 500)
            for call in calls:
                call(reader)
        for reader in WITH_501:
            for call in calls:
                self.fails(TooMany, lambda: call(reader), limit=500)
                self.fails(TooMany, lambda: call(with_useless(reader)), limit=500)
            self.assertEqual(deed_of(reader, "abc"), deed_plainly(reader, "abc"))
            for call in (exchange_pair, by_last, by_first):
                call(reader)
        great = some_reader(random.Random(103), 8, 200, 0)
        for call in calls:
            self.fails(TooMany, lambda: call(great), limit=500)
        self.fails(InvalidRow, lambda: round_of(great, "i"), given="i")

    def test_wrong_values(self):
        for call in (deed_of, round_of):
            self.fails_for_all(NotAReader, lambda given: call(given, 5), NOT_READERS)
            self.fails_for_all(InvalidRow, lambda given: call(EVEN, given), NOT_ROWS + ["c", "a" * 201])
        for call in (deeds_of, is_groupfree, group_row, exchange_pair, by_last, by_first, is_strewn):
            self.fails_for_all(NotAReader, call, NOT_READERS)
        for name in NAMES:
            self.assertEqual(getattr(deeds, name).__module__, "rowreaders.deeds")


class RoundTest(Case):
    def test_plainly(self):
        for reader in SMALL + [cycle(12), chain((3, 7)), Reader(1, ((1,), (2,), (3,), (1,)), (3,))]:
            for row in rows_up_to(reader.signs, 3):
                self.assertEqual(round_of(reader, row), round_plainly(reader, row))

    def test_edges(self):
        self.assertEqual(self.named(round_of, reader=EVEN, row="a"), (0, 2))
        self.assertEqual([round_of(AB, "a"), round_of(AB, "ab"), round_of(AB, "")], [(2, 1), (1, 1), (0, 1)])
        self.assertEqual(round_of(no_rows(1), "a"), (1, 1))
        self.assertEqual(round_of(cycle(200), "a" * 3), (0, 200))
        self.assertEqual(round_of(cycle(200), "a" * 200), (0, 1))
        self.assertEqual(round_of(chain((199,)), "a"), (200, 1))

    def test_groups(self):
        for reader in SMALL:
            rows = [row for row, _ in deeds_of(reader) if round_plainly(reader, row)[1] > 1]
            self.assertEqual(group_row(reader), rows[0] if rows else None)
            self.assertIs(is_groupfree(reader), not rows)
            # The first row of all that goes round, not of those alone that are first rows of their deeds.
            for row in rows_up_to(reader.signs, min(3, len(rows[0]) - 1 if rows else 3)):
                self.assertEqual(round_of(reader, row)[1], 1)
        self.assertEqual(self.named(group_row, reader=EVEN), "a")
        self.assertIs(self.named(is_groupfree, reader=AB), True)
        # A row of two signs goes round, each single one does not.
        swaps = Reader(2, ((1, None), (None, 2), (3, None), (None, 0)), (0,))
        self.assertEqual(group_row(swaps), "ab")


class ExchangeTest(Case):
    def test_plainly(self):
        for reader in SMALL:
            signs = "abc"[:reader.signs]
            pairs = [(one, two) for one in signs for two in signs
                     if one < two and deed_plainly(reader, one + two) != deed_plainly(reader, two + one)]
            self.assertEqual(exchange_pair(reader), pairs[0] if pairs else None)

    def test_edges(self):
        self.assertEqual(self.named(exchange_pair, reader=AB), ("a", "b"))
        self.assertIsNone(exchange_pair(all_rows(1)))
        # Of four signs only b and d matter in their order.
        order = Reader(4, ((0, 1, 0, 2), (1, 1, 1, 2), (2, 1, 2, 2)), (2,))
        self.assertEqual(exchange_pair(order), ("b", "d"))


class ByTest(Case):
    def settles(self, reader, size, cut):
        """Whether the signs that are cut off from short rows tell whether they are yes rows."""
        kinds = {}
        for row in rows_up_to(reader.signs, {1: 12, 2: 8, 3: 5}[reader.signs]):
            if len(row) >= size:
                kinds.setdefault(cut(row, size), set()).add(is_yes(reader, row))
        return all(len(kind) == 1 for kind in kinds.values())

    def test_plainly(self):
        told = 0
        for reader in SMALL + [other_rows(only(2, ("ab", "ba", "a"))), Reader(2, ((1, 2), (1, 2), (1, 2)), (1,))]:
            for call, cut in ((by_last, lambda row, size: row[len(row) - size:]),
                              (by_first, lambda row, size: row[:size])):
                fits = [size for size in range(5) if self.settles(reader, size, cut)]
                found = call(reader)
                if found is None:
                    self.assertFalse(fits and min(fits) < 2)
                elif found < 5:
                    told += 1
                    self.assertEqual(found, min(fits))
        self.assertGreater(told, 50)

    def test_edges(self):
        for call in (by_last, by_first):
            self.assertEqual([call(all_rows(2)), call(no_rows(3)), call(Reader(1, ((0,),), ()))], [0, 0, 0])
            self.assertEqual(call(Reader(2, ((1, 1), (1, 1)), (0, 1))), 0)
            self.assertIsNone(self.named(call, reader=EVEN))
            self.assertEqual(call(only(2, ("",))), 1)
            self.assertEqual(call(chain((199,))), 200)
        self.assertIsNone(by_first(Reader(2, ((0, 1), (0, 1)), (1,))))
        self.assertEqual(by_last(Reader(2, ((0, 1), (0, 1)), (1,))), 1)
        self.assertEqual(by_first(Reader(2, ((1, 2), (1, 1), (2, 2)), (1,))), 1)
        self.assertIsNone(by_last(Reader(2, ((1, 2), (1, 1), (2, 2)), (1,))))
        self.assertEqual(by_first(only(2, ("ab",))), 3)
        self.assertEqual(by_last(only(2, ("ab",))), 3)
        self.assertIsNone(by_last(cycle(200)))
        self.assertIsNone(by_first(cycle(200)))


class UnlikeTest(Case):
    def check_pair(self, reader, found, mark):
        yes, no = found
        self.assertTrue(is_yes(reader, yes))
        self.assertFalse(is_yes(reader, no))
        self.assertEqual(mark(yes), mark(no))

    def check_all(self, reader, size, call, mark):
        found = call(reader, size)
        if found is not None:
            self.assertIsInstance(found, tuple)
            self.check_pair(reader, found, lambda row: mark(row, size))
            return
        kinds = {}
        for row in rows_up_to(reader.signs, {1: 9, 2: 7, 3: 5}[reader.signs]):
            kinds.setdefault(mark(row, size), set()).add(is_yes(reader, row))
        self.assertTrue(all(len(kind) == 1 for kind in kinds.values()))

    def test_plainly(self):
        for reader in SMALL:
            for size in (1, 2, 3):
                if reader.signs < 3 or size < 3:
                    self.check_all(reader, size, unlike_looks, look_plainly)
                    self.check_all(reader, size, unlike_strewn, strewn_plainly)

    def test_longer_pieces_tell_more(self):
        for reader in SMALL:
            for call in (unlike_looks, unlike_strewn):
                enough = [call(reader, size) is None for size in ((1, 2, 3) if reader.signs < 3 else (1, 2))]
                self.assertEqual(enough, sorted(enough))
                if call == unlike_strewn and any(enough):
                    self.assertIs(is_strewn(reader), True)

    def test_edges(self):
        self.assertIsNone(self.named(unlike_looks, reader=AB, size=2))
        self.assertIsNone(unlike_looks(no_rows(2), 1))
        self.assertIsNone(self.named(unlike_strewn, reader=all_rows(2), size=1))
        # The empty row has a look of its own for each size, and strewn pieces of its own.
        self.assertIsNone(unlike_looks(only(1, ("",)), 1))
        self.assertIsNone(unlike_strewn(only(1, ("",)), 1))
        for size in (1, 2, 3):
            long = only(1, ("a" * size,))
            yes, no = unlike_looks(long, size)
            self.assertEqual(yes, "a" * size)
            self.assertGreater(len(no), size)
            self.assertIsNone(unlike_looks(only(1, ("a" * (size - 1),)), size))
            self.assertIsNotNone(unlike_strewn(long, size))
            self.assertIsNone(unlike_strewn(only(1, ("a" * (size - 1),)), size))

    def test_too_many(self):
        # How many looks and lots there are hangs on signs and size alone.
        looks = {(1, 1): 2, (8, 1): 256, (2, 2): many_marks(2, 9, lambda row: look_plainly(row, 2))}
        for (signs, size), many in looks.items():
            self.assertLessEqual(many, 2000)
            unlike_looks(all_rows(signs), size)
        self.assertEqual(many_marks(3, 6, lambda row: strewn_plainly(row, 2)), 152)
        for signs, size in ((8, 1), (3, 2), (1, 3), (2, 3)):
            self.assertIsNone(unlike_looks(all_rows(signs), size))
            self.assertIsNone(unlike_strewn(all_rows(signs), size))
        self.assertGreater(many_marks(4, 6, lambda row: look_plainly(row, 2)), 2000)
        self.assertGreater(many_marks(3, 7, lambda row: look_plainly(row, 3)), 2000)
        self.assertGreater(many_marks(3, 8, lambda row: strewn_plainly(row, 3)), 2000)
        for signs, size in ((4, 2), (3, 3), (8, 2), (8, 3)):
            for reader in (all_rows(signs), no_rows(signs)):
                self.fails(TooMany, lambda: unlike_looks(reader, size), limit=2000)
                self.fails(TooMany, lambda: unlike_strewn(reader, size), limit=2000)
        self.fails(InvalidNumber, lambda: unlike_looks(all_rows(8), 4), given=4)

    def test_many_deeds_do_not_matter(self):
        for reader in WITH_501:
            for size in (1, 2):
                self.check_pair(reader, unlike_looks(reader, size), lambda row: look_plainly(row, size))
                self.check_pair(reader, unlike_strewn(reader, size), lambda row: strewn_plainly(row, size))
            self.fails(TooMany, lambda: unlike_looks(reader, 3), limit=2000)
            self.fails(TooMany, lambda: unlike_strewn(reader, 3), limit=2000)
        great = some_reader(random.Random(104), 3, 200, 0)
        for size in (1, 2):
            self.check_pair(great, unlike_looks(great, size), lambda row: look_plainly(row, size))
            self.check_pair(great, unlike_strewn(great, size), lambda row: strewn_plainly(row, size))

    def test_wrong_values(self):
        for call in (unlike_looks, unlike_strewn):
            self.fails_for_all(NotAReader, lambda given: call(given, 0), NOT_READERS)
            self.fails_for_all(InvalidNumber, lambda given: call(EVEN, given), WRONG_SIZES)


class StrewnTest(Case):
    def strewn_by_deeds(self, reader):
        """Simon's theorem in another form: with z for xy often repeated, zx, z and yz are the same deed."""
        found = [deed for _, deed in deeds_of(reader)]

        def joined(one, two):
            return tuple(None if goal is None else two[goal] for goal in one)

        for one in found:
            for two in found:
                often = joined(one, two)
                for _ in range(10):
                    often = joined(often, often)
                if not joined(often, one) == often == joined(two, often):
                    return False
        return True

    def test_plainly(self):
        kinds = []
        for reader in SMALL:
            if len(deeds_of(reader)) < 60:
                kinds.append(is_strewn(reader))
                self.assertIs(kinds[-1], self.strewn_by_deeds(reader))
        self.assertGreater(kinds.count(True), 20)
        self.assertGreater(kinds.count(False), 20)

    def test_edges(self):
        self.assertIs(self.named(is_strewn, reader=EVEN), False)
        self.assertIs(is_strewn(no_rows(3)), True)
        self.assertIs(is_strewn(all_rows(3)), True)
        self.assertIs(is_strewn(only(2, ("abab",))), True)
        # Which sign comes first, and which comes last, is not told by strewn pieces.
        self.assertIs(is_strewn(Reader(2, ((1, 2), (1, 1), (2, 2)), (1,))), False)
        self.assertIs(is_strewn(Reader(2, ((0, 1), (0, 1)), (1,))), False)
        # Greater sizes than those that may be asked for are enough, too: five a's at least.
        five = Reader(1, ((1,), (2,), (3,), (4,), (5,), (5,)), (5,))
        self.assertIs(is_strewn(five), True)
        self.check_no_size_is_enough(five)

    def check_no_size_is_enough(self, reader):
        for size in (1, 2, 3):
            yes, no = unlike_strewn(reader, size)
            self.assertTrue(is_yes(reader, yes) and not is_yes(reader, no))
        self.assertEqual(len(yes_rows(reader, 7)), 3)
