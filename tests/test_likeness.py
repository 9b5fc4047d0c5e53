"""rowreaders.likeness."""

import random

from helpers import AB, EVEN, NOT_INTEGERS, NOT_READERS, Case, chain, cycle, every_reader, goes, is_yes
from helpers import least_plainly, row_order, rows_up_to, some_reader, some_readers, with_useless, yes_rows

from rowreaders import likeness
from rowreaders.errors import InvalidStand, NotAReader, UnlikeSigns
from rowreaders.likeness import first_apart, first_outside, first_rows, is_within, least, parting, same_rows
from rowreaders.readers import Reader, all_rows, filled, no_rows, only

SMALL = list(every_reader(1, 2)) + some_readers(31, 60, 2, 3)
TWICE = Reader(2, ((1, 2), (2, 3), (1, 0), (0, 1)), (0, 2))


def with_other_numbers(reader, chance):
    """The same reader, its stands but 0 numbered otherwise."""
    rest = list(range(1, len(reader)))
    chance.shuffle(rest)
    place = [0] + rest
    arrows = [None] * len(reader)
    for stand in range(len(reader)):
        arrows[place[stand]] = tuple(None if goal is None else place[goal] for goal in reader.arrows[stand])
    return Reader(reader.signs, tuple(arrows), tuple(sorted(place[end] for end in reader.ends)))


class CompareTest(Case):
    def test_plainly_either_way_round(self):
        pairs = [(one, two) for one in SMALL[:36] for two in SMALL[:36]]
        pairs += [(one, two) for one in SMALL[36:] for two in SMALL[36:]]
        for one, two in pairs:
            most = len(one) + len(two)
            every = [row for row in rows_up_to(one.signs, most if one.signs == 1 else 5)]
            apart = [row for row in every if is_yes(one, row) != is_yes(two, row)]
            self.assert_first(first_apart(one, two), apart, one.signs)
            outside = [row for row in apart if is_yes(one, row)]
            self.assert_first(first_outside(one, two), outside, one.signs)
            self.assertIs(same_rows(one, two), first_apart(one, two) is None)
            self.assertIs(is_within(one, two), first_outside(one, two) is None)
            self.assertIs(same_rows(one, two), least(one) == least(two))

    def assert_first(self, found, rows, signs):
        if rows:
            self.assertEqual(found, rows[0])
        else:
            self.assertTrue(found is None or signs > 1 and len(found) > 5)

    def test_edges(self):
        self.assertIsNone(self.named(first_apart, reader=TWICE, other=least(TWICE)))
        self.assertEqual(self.named(first_apart, reader=EVEN, other=AB), "b")
        self.assertIs(self.named(same_rows, reader=EVEN, other=AB), False)
        self.assertIs(self.named(is_within, inner=AB, outer=EVEN), False)
        self.assertEqual(self.named(first_outside, inner=AB, outer=EVEN), "ab")
        self.assertIs(is_within(no_rows(2), no_rows(2)), True)
        self.assertIs(is_within(all_rows(2), no_rows(2)), False)
        self.assertEqual(first_outside(all_rows(2), no_rows(2)), "")
        self.assertIsNone(first_apart(no_rows(3), Reader(3, ((0, 0, 0),), ())))
        self.assertEqual(first_apart(all_rows(2), only(2, ("", "a", "b", "aa", "ab", "bb"))), "ba")

    def test_great_readers(self):
        self.assertEqual(first_apart(cycle(199), cycle(200)), "a" * 199)
        self.assertEqual(first_outside(cycle(200), cycle(199)), "a" * 200)
        self.assertIs(is_within(cycle(200), cycle(100)), True)
        self.assertIs(is_within(cycle(100), cycle(200)), False)
        self.assertEqual(first_apart(cycle(100), cycle(200)), "a" * 100)
        # Rows may be told longer than a parameter lets them be: 379 is 19 behind 20's, and 18 behind 19's.
        late = Reader(1, cycle(20).arrows, (19,))
        others = Reader(1, cycle(19).arrows, tuple(range(18)))
        self.assertEqual(first_outside(late, others), "a" * 379)
        self.assertEqual(first_apart(filled(cycle(200)), cycle(200)), None)

    def test_wrong_values(self):
        for call in (same_rows, first_apart, is_within, first_outside):
            self.fails_for_all(NotAReader, lambda given: call(given, "other"), NOT_READERS)
            self.fails_for_all(NotAReader, lambda given: call(EVEN, given), NOT_READERS)
            self.fails(UnlikeSigns, lambda: call(EVEN, all_rows(1)))
            self.fails(UnlikeSigns, lambda: call(no_rows(7), no_rows(8)))
        for name in ("same_rows", "first_apart", "is_within", "first_outside", "least", "first_rows", "parting"):
            self.assertEqual(getattr(likeness, name).__module__, "rowreaders.likeness")


class LeastTest(Case):
    def test_plainly(self):
        for reader in list(every_reader(1, 3)) + list(every_reader(2, 2)) + some_readers(32, 200, 3, 9):
            made = least(reader)
            self.assertEqual((made.signs, made.arrows, made.ends), (reader.signs, *least_plainly(reader)))
            self.assertEqual(least(made), made)

    def test_says_the_same(self):
        for reader in SMALL:
            self.assertEqual(yes_rows(least(reader), 6), yes_rows(reader, 6))

    def test_the_same_for_all_that_say_the_same(self):
        chance = random.Random(33)
        for reader in some_readers(34, 150, 2, 8):
            made = least(reader)
            self.assertEqual(least(with_other_numbers(reader, chance)), made)
            self.assertEqual(least(with_useless(reader)), made)
            self.assertEqual(least(filled(reader)), made)

    def test_edges(self):
        self.assertEqual(self.named(least, reader=TWICE), Reader(2, ((1, 0), (0, 1)), (0,)))
        for signs in (1, 8):
            for reader in (no_rows(signs), Reader(signs, ((0,) * signs,), ()),
                           Reader(signs, ((0,) * signs, (1,) * signs), (1,))):
                self.assertEqual(least(reader), Reader(signs, ((None,) * signs,), ()))
        self.assertEqual(least(Reader(1, ((1,), (0,)), (0, 1))), all_rows(1))
        self.assertEqual(least(Reader(2, ((1, None), (None, None)), (0,))), only(2, ("",)))
        self.assertEqual(len(least(cycle(200, 8))), 200)
        self.assertEqual(len(least(some_reader(random.Random(35), 8, 200, 0))), 200)
        doubled = Reader(1, tuple(((at + 1) % 200,) for at in range(200)), tuple(range(0, 200, 2)))
        self.assertEqual(least(doubled), cycle(2))

    def test_wrong_values(self):
        for call in (least, first_rows):
            self.fails_for_all(NotAReader, call, NOT_READERS)


class FirstRowsTest(Case):
    def test_plainly(self):
        for reader in list(every_reader(1, 3)) + some_readers(36, 80, 2, 5):
            made = least(reader)
            rows = first_rows(reader)
            self.assertIsInstance(rows, tuple)
            every = list(rows_up_to(reader.signs, len(made)))
            plain = [next(row for row in every if goes(made, 0, row) == stand) for stand in range(len(made))]
            self.assertEqual(list(rows), plain)
            self.assertEqual(list(rows), sorted(rows, key=row_order))

    def test_edges(self):
        self.assertEqual(self.named(first_rows, reader=EVEN), ("", "a"))
        self.assertEqual(first_rows(no_rows(2)), ("",))
        self.assertEqual(first_rows(chain((199,)))[199], "a" * 199)


class PartingTest(Case):
    def test_plainly(self):
        for reader in SMALL + [TWICE]:
            every = list(rows_up_to(reader.signs, 6))
            for one in range(len(reader)):
                for other in range(len(reader)):
                    rows = [row for row in every
                            if (goes(reader, one, row) in reader.ends) != (goes(reader, other, row) in reader.ends)]
                    self.assertEqual(parting(reader, one, other), rows[0] if rows else None)
                self.assertIsNone(parting(reader, one, one))

    def test_edges(self):
        self.assertEqual(self.named(parting, reader=EVEN, one=0, other=1), "")
        self.assertIsNone(parting(TWICE, 0, 2))
        self.assertEqual(parting(TWICE, 0, 1), "")
        # The stands stay as they are: useless ones are parted, too.
        self.assertEqual(parting(Reader(1, ((None,), (2,), (None,)), (2,)), 0, 1), "a")
        self.assertEqual(parting(chain((199,)), 0, 199), "")
        self.assertEqual(parting(chain((199,)), 1, 0), "a" * 198)

    def test_wrong_values(self):
        wrong = NOT_INTEGERS + [-1, 2, 200, 10 ** 59, -10 ** 59]
        self.fails_for_all(NotAReader, lambda given: parting(given, 5, 5), NOT_READERS)
        self.fails_for_all(InvalidStand, lambda given: parting(EVEN, given, "other"), wrong)
        self.fails_for_all(InvalidStand, lambda given: parting(EVEN, 1, given), wrong)
