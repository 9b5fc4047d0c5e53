"""rowreaders.endless."""

import functools
import random
import unittest.mock

from helpers import AB, EVEN, LETTERS, NOT_INTEGERS, NOT_READERS, NOT_ROWS, STRANGE, Case, cycle, is_yes
from helpers import met_from, rows_up_to, some_reader

from rowreaders import endless, repeating
from rowreaders.endless import Watcher, a_loop, both_loops, closed, either_loops, fronts_of, is_closed, loops_behind
from rowreaders.endless import other_loops, same_loops, unlike_loop, watcher_of, watches
from rowreaders.errors import InvalidArrows, InvalidMarks, InvalidRow, InvalidSigns, NotAReader, NotAWatcher
from rowreaders.errors import TooMany, UnlikeSigns
from rowreaders.likeness import least, same_rows
from rowreaders.making import both, either
from rowreaders.readers import Reader, all_rows, no_rows

MUCH_B = Watcher(2, ((0, 1), (0, 1)), (1,))
SOME_B = Watcher(2, ((0, 1), (1, 1)), (1,))
# Only a's from some place on, or: endlessly many b's, and an even number of a's between them.
NOT_MUCH_B = Watcher(2, ((0, 1), (0, 1)), (0,))
EVEN_A = Watcher(2, ((1, 0), (0, None)), (0,))
NEVER = Watcher(2, ((0, 1), (1, 0)), ())
ALWAYS = Watcher(2, ((0, 0),), (0,))
NOT_WATCHERS = NOT_READERS + [EVEN, AB, (2, ((0, 1), (0, 1)), (1,))]


@functools.lru_cache(None)
def walked(arrows, marks, start, loop):
    """Whether these say yes to a row without end, walking for long: the loop comes back within as many stands."""
    stand = 0
    for sign in start + loop * len(arrows):
        stand = arrows[stand][LETTERS.index(sign)]
        if stand is None:
            return False
    met = False
    for sign in loop * len(arrows):
        stand = arrows[stand][LETTERS.index(sign)]
        if stand is None:
            return False
        met = met or stand in marks
    return met


def is_watched(watcher, start, loop):
    return walked(watcher.arrows, watcher.marks, start, loop)


def some_watcher(chance, signs, most):
    reader = some_reader(chance, signs, chance.randint(1, most), chance.choice([0, 0.1, 0.3]),
                         chance.choice([0.2, 0.4, 0.7]))
    return Watcher(signs, reader.arrows, reader.ends)


def some_watchers(seed, many, signs, most):
    chance = random.Random(seed)
    return [some_watcher(chance, signs, most) for _ in range(many)]


def all_loops(signs, start, loop):
    """All pairs of a start and a loop, of so many signs at most."""
    return [(first, again) for first in rows_up_to(signs, start) for again in rows_up_to(signs, loop) if again]


LOOPS = {1: all_loops(1, 4, 4), 2: all_loops(2, 3, 5), 3: all_loops(3, 2, 3)}
SMALL = some_watchers(51, 40, 1, 4) + some_watchers(52, 70, 2, 4) + some_watchers(53, 20, 3, 4)
SMALL += [MUCH_B, SOME_B, NOT_MUCH_B, EVEN_A, NEVER, ALWAYS]
PAIRS = [(SMALL[at], SMALL[at + 1]) for at in range(len(SMALL) - 1) if SMALL[at].signs == SMALL[at + 1].signs]


def seen(watcher):
    return [is_watched(watcher, start, loop) for start, loop in LOOPS[watcher.signs]]


def ring(stands, signs=1, marks=(0,)):
    """A watcher that all signs lead round."""
    return Watcher(signs, cycle(stands, signs).arrows, marks)


def line_back(stands):
    """Watches for a row of a's, as many as it has stands less one, and a b, again and again."""
    arrows = tuple((at + 1, None) for at in range(stands - 1)) + ((None, 0),)
    return Watcher(2, arrows, (0,))


class WatcherTest(Case):
    def test_properties(self):
        self.assertEqual((MUCH_B.signs, MUCH_B.arrows, MUCH_B.marks), (2, ((0, 1), (0, 1)), (1,)))
        self.assertEqual(len(MUCH_B), 2)
        self.assertEqual(len(ring(200, 8)), 200)
        self.assertEqual(Watcher(signs=2, arrows=((0, 1), (0, 1)), marks=(1,)), MUCH_B)
        self.assertTrue(bool(NEVER))
        for kind in ("signs", "arrows", "marks"):
            self.assertIsInstance(getattr(Watcher, kind), property)

    def test_equality(self):
        self.assertEqual(MUCH_B, Watcher(2, ((0, 1), (0, 1)), (1,)))
        self.assertFalse(MUCH_B != Watcher(2, ((0, 1), (0, 1)), (1,)))
        for other in (SOME_B, NOT_MUCH_B, Watcher(2, ((0, 1), (0, 1)), ()), Watcher(1, ((0,), (0,)), (1,)),
                      Reader(2, ((0, 1), (0, 1)), (1,)), (2, ((0, 1), (0, 1)), (1,)), None, "MUCH_B"):
            self.assertFalse(MUCH_B == other)
            self.assertTrue(MUCH_B != other)
            self.assertFalse(other == MUCH_B)

    def test_wrong_parts(self):
        arrows = [((0, 1),), ((0,),), ((0, -1),), ((0, True),), ((0, None, 0),), [(0, 0)], ([0, 0],), (), ((0, "0"),),
                  ((0, 0),) * 201, ((0, 1), (0, 2)), (None,), None, "", 0]
        marks = [[0], (1,), (0, 0), (0, 1), (-1,), (True,), (False,), ("0",), (None,), None, 0, "", {0: 1}]
        self.fails_for_all(InvalidSigns, lambda given: Watcher(given, 0, 0), NOT_INTEGERS + [0, 9, -1, 10 ** 59])
        self.fails_for_all(InvalidArrows, lambda given: Watcher(2, given, 5), arrows + STRANGE)
        self.fails_for_all(InvalidMarks, lambda given: Watcher(2, ((0, 0),), given), marks)
        self.fails(InvalidMarks, lambda: Watcher(2, ((0, 1), (1, 0)), (1, 0)), given=(1, 0))


class WatchesTest(Case):
    def test_plainly(self):
        for watcher in SMALL:
            self.assertEqual([watches(watcher, *pair) for pair in LOOPS[watcher.signs]], seen(watcher))

    def test_written_otherwise(self):
        chance = random.Random(54)
        for watcher in SMALL:
            for start, loop in chance.sample(LOOPS[watcher.signs], 12):
                wanted = is_watched(watcher, start, loop)
                for other in ((start, loop * 2), (start, loop * 7), (start + loop[0], loop[1:] + loop[0]),
                              (start + loop * 3, loop)):
                    self.assertIs(watches(watcher, *other), wanted)

    def test_edges(self):
        self.assertIs(self.named(watches, watcher=MUCH_B, start="a", loop="ab"), True)
        self.assertIs(watches(MUCH_B, "b", "a"), False)
        self.assertIs(watches(MUCH_B, "b" * 200, "a" * 200), False)
        self.assertIs(watches(MUCH_B, "", "a" * 199 + "b"), True)
        # The row leads nowhere: in the start, in the loop, late in it; a mark that is met ahead does not matter.
        gone = Watcher(2, ((1, 0), (2, 0), (None, 0)), (0,))
        self.assertEqual([watches(gone, *pair) for pair in (("aaa", "b"), ("", "a"), ("", "aab"), ("", "baaa"))],
                         [False, False, True, False])
        # Rounds are needed to come back to a stand.
        self.assertIs(watches(ring(200, 1, (77,)), "", "a" * 199), True)
        self.assertIs(watches(ring(200, 1, (77,)), "", "a"), True)
        self.assertIs(watches(ring(200, 1, ()), "", "a"), False)
        # A mark within the loop is met, too, not only one at its end.
        self.assertIs(watches(ring(4, 2, (1,)), "", "abab"), True)
        # The first stand counts only if it is met again.
        self.assertIs(watches(Watcher(1, ((1,), (1,)), (0,)), "", "a"), False)

    def test_wrong_values(self):
        self.fails_for_all(NotAWatcher, lambda given: watches(given, "c", ""), NOT_WATCHERS)
        self.fails_for_all(InvalidRow, lambda given: watches(MUCH_B, given, "c"), NOT_ROWS + ["c", "abc"])
        self.fails_for_all(InvalidRow, lambda given: watches(MUCH_B, "", given), NOT_ROWS + ["c", "abc", ""])


class LikeTest(Case):
    def test_a_loop(self):
        for watcher in SMALL:
            found = a_loop(watcher)
            self.assertIs(found is not None, any(seen(watcher)))
            if found is not None:
                self.assertTrue(is_watched(watcher, *found))

    def test_plainly(self):
        for one, two in PAIRS:
            found = unlike_loop(one, two)
            self.assertIs(found is not None, seen(one) != seen(two))
            self.assertIs(same_loops(one, two), found is None)
            if found is not None:
                start, loop = found
                self.assertNotEqual(is_watched(one, start, loop), is_watched(two, start, loop))
                self.assertNotEqual(loop, "")

    def test_edges(self):
        self.assertIsNone(self.named(a_loop, watcher=Watcher(1, ((0,),), ())))
        self.named(a_loop, watcher=ALWAYS)
        # A mark that cannot be come to, or not come back to, does not matter.
        self.assertIsNone(a_loop(Watcher(1, ((0,), (1,)), (1,))))
        self.assertIsNone(a_loop(Watcher(1, ((1,), (2,), (2,)), (1,))))
        start, loop = a_loop(line_back(200))
        self.assertEqual((len(start) % 200, len(loop)), (0, 200))
        self.assertIs(self.named(same_loops, watcher=MUCH_B, other=MUCH_B), True)
        self.assertIsNone(self.named(unlike_loop, watcher=NEVER, other=Watcher(2, ((None, None),), ())))
        self.assertIs(same_loops(MUCH_B, NOT_MUCH_B), False)
        self.assertIs(same_loops(ring(7, 2), ring(5, 2, (3,))), True)
        found = unlike_loop(line_back(200), line_back(199))
        self.assertGreaterEqual(len(found[1]), 199)
        self.assertIs(same_loops(line_back(200), line_back(199)), False)

    def test_wrong_values(self):
        for call in (same_loops, unlike_loop, both_loops, either_loops):
            self.fails_for_all(NotAWatcher, lambda given: call(given, "other"), NOT_WATCHERS)
            self.fails_for_all(NotAWatcher, lambda given: call(MUCH_B, given), NOT_WATCHERS)
            self.fails(UnlikeSigns, lambda: call(MUCH_B, ring(2)))
            self.fails(UnlikeSigns, lambda: call(ring(2, 7), ring(2, 8)))
        for call in (a_loop, closed, is_closed, other_loops, fronts_of):
            self.fails_for_all(NotAWatcher, call, NOT_WATCHERS)


def rounds_from(watcher, begin):
    """Whether rounds lead from a stand back to it that meet no mark, that meet some mark."""
    places = [(begin, False)]
    rounds = set()
    for stand, is_met in places:
        for goal in watcher.arrows[stand]:
            place = (goal, is_met or goal in watcher.marks)
            if goal == begin:
                rounds.add(place[1])
            if goal is not None and place not in places:
                places.append(place)
    return rounds


class MadeTest(Case):
    def assert_watched(self, watcher, wanted):
        self.assertIsInstance(watcher, Watcher)
        signs = watcher.signs
        self.assertEqual([watches(watcher, *pair) for pair in LOOPS[signs]], wanted)

    def test_both_and_either(self):
        for one, two in PAIRS:
            here, there = seen(one), seen(two)
            self.assert_watched(both_loops(one, two), [first and second for first, second in zip(here, there)])
            self.assert_watched(either_loops(one, two), [first or second for first, second in zip(here, there)])

    def test_other_loops(self):
        none = 0
        for watcher in SMALL:
            other = other_loops(watcher)
            if other is None:
                none += 1
                self.assert_none_is_right(watcher)
            else:
                self.assert_watched(other, [not flag for flag in seen(watcher)])
                self.assertIs(same_loops(either_loops(watcher, other), closed(ring(1, watcher.signs))), True)
                self.assertIsNone(a_loop(both_loops(watcher, other)))
        self.assertTrue(0 < none < len(SMALL))

    def assert_none_is_right(self, watcher):
        """Some stand has a round by a mark and one without: so no watcher watches for all other rows.

        One with n stands would have to meet marks along the round without a mark, taken n times, ahead of each
        round by a mark, and so again and again along a row that the watcher says yes to.
        """
        reader = Reader(watcher.signs, watcher.arrows, ())
        self.assertTrue(any(rounds_from(watcher, stand) == {False, True} for stand in met_from(reader, 0)))

    def test_closed(self):
        for watcher in SMALL:
            fronts = fronts_of(watcher)
            # A reader of fronts leads nowhere soon if it does; so long rows tell of all fronts.
            wanted = [is_yes(fronts, start + loop * 8) for start, loop in LOOPS[watcher.signs]]
            made = closed(watcher)
            self.assert_watched(made, wanted)
            self.assertIs(is_closed(watcher), seen(watcher) == wanted)
            self.assertIs(is_closed(made), True)
            self.assertIs(same_loops(closed(made), made), True)

    def test_watcher_of(self):
        chance = random.Random(55)
        for turn in range(60):
            reader = some_reader(chance, 2, chance.randint(1, 5), chance.choice([0, 0.2]))
            made = watcher_of(reader)
            for start, loop in chance.sample(LOOPS[2], 20):
                row = start + loop * 6
                often = [size for size in range(len(row), len(row) + 6 * len(loop))
                         if is_yes(reader, (row + loop * 6)[:size])]
                self.assertIs(watches(made, start, loop), bool(often))

    def test_edges(self):
        self.assertIsNone(self.named(other_loops, watcher=MUCH_B))
        made = self.named(other_loops, watcher=SOME_B)
        self.assertEqual([watches(made, *pair) for pair in (("", "a"), ("ab", "a"), ("", "b"))], [True, False, False])
        self.assertIs(watches(other_loops(EVEN_A), "", "aab"), False)
        self.assertIs(watches(other_loops(EVEN_A), "", "ab"), True)
        self.assertIsNone(a_loop(other_loops(ALWAYS)))
        self.assertIs(same_loops(other_loops(NEVER), ALWAYS), True)
        # Where the watcher leads nowhere the other one says yes.
        self.assertIs(watches(other_loops(Watcher(1, ((None,),), ())), "", "a"), True)
        self.assertIs(watches(other_loops(line_back(200)), "aa", "b"), True)
        self.assertIs(watches(other_loops(line_back(200)), "", "a" * 199 + "b"), False)
        # Stands that cannot be come to do not matter.
        aside = Watcher(2, ((0, None), (1, 2), (1, 2)), (0, 2))
        self.assertIs(watches(other_loops(aside), "a", "b"), True)
        self.assertIs(self.named(is_closed, watcher=MUCH_B), False)
        self.assertIs(same_loops(self.named(closed, watcher=MUCH_B), ALWAYS), True)
        self.assertIsNone(a_loop(closed(NEVER)))
        self.assertIs(is_closed(NEVER), True)
        self.assertIs(is_closed(SOME_B), False)
        self.assertIs(is_closed(EVEN_A), True)
        self.assertIs(is_closed(line_back(50)), True)
        self.assertIs(same_loops(self.named(watcher_of, reader=Reader(2, MUCH_B.arrows, (1,))), MUCH_B), True)
        self.named(both_loops, watcher=MUCH_B, other=SOME_B)
        self.named(either_loops, watcher=MUCH_B, other=SOME_B)
        self.fails_for_all(NotAReader, watcher_of, NOT_READERS + [MUCH_B])

    def test_made_ones_may_be_great_and_are_passed_on(self):
        great = both_loops(either_loops(line_back(150), line_back(149)), either_loops(line_back(149), line_back(150)))
        self.assertGreater(len(great), 200)
        self.assertIs(same_loops(great, either_loops(line_back(149), line_back(150))), True)
        self.assertIs(watches(great, "", "a" * 149 + "b"), True)
        self.assertIs(watches(great, "", "a" * 148 + "b"), True)
        self.assertIs(watches(great, "", "a" * 147 + "b"), False)
        other = other_loops(great)
        self.assertGreater(len(other), 200)
        self.assertIs(watches(other, "", "a" * 147 + "b"), True)
        self.assertIs(is_closed(great), True)
        self.assertIs(is_closed(closed(great)), True)
        self.assertTrue(watches(great, *[row[:200] for row in a_loop(great)]))
        self.assertIsNone(unlike_loop(great, both_loops(great, great)))
        self.assertIs(same_loops(other_loops(other), great), True)
        self.fails(TooMany, lambda: fronts_of(great), limit=200)
        self.fails(TooMany, lambda: loops_behind(great, ""), limit=200)
        self.assertEqual(rows_with_one_b(loops_behind(great, "aab")), [])


def rows_with_one_b(reader):
    return [row for row in ("a" * many + "b" for many in range(200)) if is_yes(reader, row)]


class FrontsTest(Case):
    def test_plainly(self):
        for watcher in SMALL:
            fronts = fronts_of(watcher)
            self.assertEqual(least(fronts), fronts)
            loops = LOOPS[watcher.signs]
            for row in rows_up_to(watcher.signs, 3):
                self.assertIs(is_yes(fronts, row), any(is_watched(watcher, row + start, loop) for start, loop in loops))

    def test_edges(self):
        self.assertTrue(same_rows(self.named(fronts_of, watcher=MUCH_B), all_rows(2)))
        self.assertEqual(fronts_of(NEVER), no_rows(2))
        self.assertEqual(fronts_of(Watcher(1, ((1,), (None,)), (0, 1))), no_rows(1))
        self.assertEqual(len(fronts_of(line_back(200))), 200)
        self.fails(TooMany, lambda: fronts_of(either_loops(line_back(150), line_back(100))), limit=200)
        self.assertEqual(len(fronts_of(either_loops(line_back(200), ring(1, 2)))), 1)


class LoopsBehindTest(Case):
    def assert_loops(self, watcher, start, length):
        made = loops_behind(watcher, start)
        self.assertEqual(least(made), made)
        for row in rows_up_to(watcher.signs, length):
            self.assertIs(is_yes(made, row), row != "" and is_watched(watcher, start, row))
        return made

    def test_plainly(self):
        lengths = {1: 8, 2: 6, 3: 4}
        many = 0
        for watcher in SMALL:
            for start in list(rows_up_to(watcher.signs, 1)) + ["aaaa"]:
                try:
                    self.assert_loops(watcher, start, lengths[watcher.signs])
                except TooMany:
                    many += 1
        self.assertLess(many, 9)

    def test_the_same_for_all_that_are_alike(self):
        for one, two in PAIRS:
            if is_closed(one):
                joined = both_loops(either_loops(one, two), one)
                try:
                    self.assertEqual(loops_behind(one, "a"), loops_behind(joined, "a"))
                except TooMany:
                    self.assertGreater(len(one), 3)

    def test_edges(self):
        self.assertEqual(self.named(loops_behind, watcher=MUCH_B, start=""), Reader(2, ((0, 1), (1, 1)), (1,)))
        self.assertEqual(loops_behind(SOME_B, "b"), Reader(2, ((1, 1), (1, 1)), (1,)))
        self.assertEqual(loops_behind(NEVER, "ab"), no_rows(2))
        # A start that leads nowhere, or to where nothing is watched for any more.
        self.assertEqual(loops_behind(EVEN_A, "ab"), no_rows(2))
        self.assertEqual(loops_behind(Watcher(1, ((1,), (1,)), (0,)), "a"), no_rows(1))
        self.assertEqual(loops_behind(line_back(9), "aab"), no_rows(2))
        # Loops of a ring are all rows but the empty one, however they fall upon it.
        self.assertEqual(loops_behind(ring(11, 2, (3,)), "ab"), Reader(2, ((1, 1), (1, 1)), (1,)))
        made = loops_behind(line_back(7), "aaa")
        self.assertTrue(is_yes(made, "aaabaaa"))
        self.assertTrue(is_yes(made, "aaabaaa" * 3))
        self.assertFalse(is_yes(made, "aaaabaa"))
        self.assertFalse(is_yes(made, ""))
        self.assertTrue(is_yes(loops_behind(line_back(199), ""), "a" * 198 + "b"))
        self.assertEqual(len(loops_behind(line_back(199), "")), 200)
        # The loop says yes only if it is led on with three times: to the one stand, to the other one, and back.
        three = Watcher(2, ((1, 0), (2, 0), (0, 2)), (2,))
        self.assert_loops(three, "", 8)

    def test_too_many(self):
        self.fails(TooMany, lambda: loops_behind(line_back(200), ""), limit=200)
        self.fails(TooMany, lambda: loops_behind(either_loops(line_back(150), line_back(130)), ""), limit=200)
        # The one sign leads six stands round, the other one exchanges two of them, and one for the mark.
        turning = Watcher(2, ((1, 1), (2, 0), (3, 2), (4, 3), (5, 4), (0, 6), (6, 5)), (6,))
        self.fails(TooMany, lambda: loops_behind(turning, ""), limit=200)
        chance = random.Random(56)
        for size in (30, 100, 200):
            reader = some_reader(chance, 2, size, 0, 0.1)
            self.fails(TooMany, lambda: loops_behind(Watcher(2, reader.arrows, reader.ends), ""), limit=200)

    def test_what_is_told_apart_on_the_way(self):
        """However early it is looked whether too many rows are unlike, the same comes out."""
        watchers = [watcher for watcher in SMALL if len(watcher) < 4] + [MUCH_B, SOME_B, line_back(7), ring(11, 2, (3,))]
        found = [self.told(watcher) for watcher in watchers]
        with unittest.mock.patch.object(repeating, "FIRST_LOOK", 2):
            self.assertEqual([self.told(watcher) for watcher in watchers], found)
            # There are just as many stands as there may be, and rows besides that will never do.
            self.assertEqual(len(loops_behind(line_back(199), "")), 200)
            self.fails(TooMany, lambda: loops_behind(line_back(200), ""), limit=200)

    def told(self, watcher):
        try:
            return loops_behind(watcher, "")
        except TooMany:
            return None

    def test_much_is_done_by_rows_but_little_matters(self):
        # The row says no only if it keeps to stand 0 from there, whatever it does to the other ones.
        arrows = ((0, 0, 2, 1, 0, 0, 1, 0), (1, 2, 0, 2, 0, 0, 0, 3), (2, 0, 2, 4, 1, 3, 4, 4), (1, 4, 5, 2, 4, 5, 2, 1),
                  (6, 5, 2, 4, 4, 2, 2, 2), (4, 4, 3, 3, 7, 3, 4, 3), (7, 8, 5, 8, 5, 8, 8, 8), (7, 5, 5, 9, 8, 5, 9, 9),
                  (8, 6, 7, 7, 6, 9, 9, 7), (9, 8, 9, 8, 7, 9, 8, 9))
        made = loops_behind(Watcher(8, arrows, tuple(range(1, 10))), "")
        self.assertEqual(made, Reader(8, ((0, 0, 1, 1, 0, 0, 1, 0), (1,) * 8), (1,)))
        # Here it is another stand: rows that keep to it lead there at last, or they do not.
        for arrows in (((1, 2), (2, 0), (2, 2), (0, 3)), ((1, 3), (2, 1), (2, 3), (1, 0)), ((1, 1), (3, 2), (2, 0), (0, 2))):
            self.assert_loops(Watcher(2, arrows, (0, 1, 3)), "", 7)

    def test_too_many_that_are_hard_to_tell(self):
        chance = random.Random(57)
        for signs, size, nowhere, end in ((2, 200, 0.2, 0.9), (2, 200, 0.2, 0.5), (8, 120, 0.5, 0.5), (8, 60, 0.5, 0.05)):
            reader = some_reader(chance, signs, size, nowhere, end)
            self.fails(TooMany, lambda: loops_behind(Watcher(signs, reader.arrows, reader.ends), ""), limit=200)

    def test_with_books_of_readers(self):
        # Loops of both are loops of each, and so for either.
        for one, two in PAIRS[::5]:
            try:
                here, there = loops_behind(one, ""), loops_behind(two, "")
                self.assertEqual(loops_behind(both_loops(one, two), ""), both(here, there))
                self.assertEqual(loops_behind(either_loops(one, two), ""), either(here, there))
            except TooMany:
                self.assertGreater(len(one) + len(two), 4)

    def test_wrong_values(self):
        self.fails_for_all(NotAWatcher, lambda given: loops_behind(given, "c"), NOT_WATCHERS)
        self.fails_for_all(InvalidRow, lambda given: loops_behind(MUCH_B, given), NOT_ROWS + ["c", "abc"])
        self.fails(InvalidRow, lambda: loops_behind(line_back(200), "a" * 201), given="a" * 201)

    def test_where_they_stand(self):
        for name in ("watches", "a_loop", "same_loops", "unlike_loop", "both_loops", "either_loops", "closed",
                     "is_closed", "other_loops", "fronts_of", "loops_behind", "watcher_of", "Watcher"):
            self.assertEqual(getattr(endless, name).__module__, "rowreaders.endless")
