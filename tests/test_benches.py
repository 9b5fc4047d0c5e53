"""rowreaders.benches."""

import random

from helpers import AB, EVEN, LETTERS, NOT_INTEGERS, NOT_READERS, STRANGE, Case, chain, cycle, some_reader
from helpers import least_plainly

from rowreaders import benches
from rowreaders.benches import Bench
from rowreaders.errors import InvalidSign, InvalidStand, NotAReader, NothingToUndo, TooMany
from rowreaders.readers import Reader, no_rows

NOT_SIGNS = [thing for thing in STRANGE] + ["", "c", "ab", "aa", "A", 0, ("a",), ["a"], "a\n"]


class OwnBook:
    """Arrows, ends and lines, kept by hand, with all that has been before."""

    def __init__(self, reader):
        self.now = ([list(goals) for goals in reader.arrows], set(reader.ends), [])
        self.signs = reader.signs
        self.past = []

    def step(self):
        arrows, ends, lines = self.now
        self.past.append(self.now)
        self.now = ([list(goals) for goals in arrows], set(ends), list(lines))

    def lead(self, stand, sign, goal):
        self.step()
        self.now[0][stand][LETTERS.index(sign)] = goal
        self.now[2].append(f"lead {stand} {sign} {'-' if goal is None else goal}")

    def turn(self, stand):
        self.step()
        self.now[1].symmetric_difference_update({stand})
        self.now[2].append(f"turn {stand}")

    def grow(self):
        self.step()
        self.now[0].append([None] * self.signs)
        self.now[2].append("grow")

    def undo(self):
        self.now = self.past.pop()

    def reader(self):
        return Reader(self.signs, tuple(map(tuple, self.now[0])), tuple(sorted(self.now[1])))


def some_deed(chance, size, signs):
    """A deed by chance, as its name and its arguments."""
    kind = chance.choice(["lead", "lead", "lead", "turn", "turn", "grow", "undo"])
    if kind == "lead":
        return kind, (chance.randrange(size), chance.choice(LETTERS[:signs]), chance.choice([None, *range(size)]))
    return kind, ((chance.randrange(size),) if kind == "turn" else ())


class BenchTest(Case):
    def assert_as(self, bench, book):
        reader = book.reader()
        self.assertEqual(bench.reader, reader)
        self.assertEqual(bench.fewest, len(least_plainly(reader)[0]))
        self.assertEqual(bench.changes, len(book.past))
        self.assertEqual(bench.log, tuple(book.now[2]))

    def test_many_changes(self):
        chance = random.Random(71)
        for signs in (1, 2, 3, 8):
            for _ in range(8):
                reader = some_reader(chance, signs, chance.randint(1, 6))
                bench, book = Bench(reader), OwnBook(reader)
                for _ in range(80):
                    name, arguments = some_deed(chance, len(bench.reader), signs)
                    if name == "undo" and not book.past or name != "undo" and len(book.past) == 60:
                        continue
                    returned = getattr(bench, name)(*arguments)
                    getattr(book, name)(*arguments)
                    self.assert_as(bench, book)
                    self.assertEqual(returned, None if name == "undo" else bench.fewest)

    def test_edges(self):
        bench = Bench(reader=EVEN)
        self.assertIs(bench.reader, EVEN)
        self.assertEqual((bench.fewest, bench.changes, bench.log), (2, 0, ()))
        # By name, in any order; and nothing that has been told is altered.
        self.assertEqual(bench.lead(goal=1, stand=0, sign="b"), 2)
        self.assertEqual(bench.turn(stand=1), 1)
        log, reader = bench.log, bench.reader
        self.assertEqual(bench.grow(), 1)
        self.assertEqual((log, reader.ends, len(reader)), (("lead 0 b 1", "turn 1"), (0, 1), 2))
        self.assertEqual(EVEN, Reader(2, ((1, 0), (0, 1)), (0,)))
        self.assertEqual(bench.lead(2, "a", None), 1)
        self.assertEqual(bench.turn(2), 1)
        self.assertEqual(bench.reader, Reader(2, ((1, 1), (0, 1), (None, None)), (0, 1, 2)))
        # Deeds that change nothing count, too.
        self.assertEqual(bench.lead(0, "a", 1), 1)
        self.assertEqual((bench.changes, bench.log[-1]), (6, "lead 0 a 1"))
        self.assertEqual(Bench(no_rows(3)).turn(0), 1)
        self.assertEqual(Bench(chain((3,))).lead(1, "a", None), 1)
        great = Bench(cycle(200, 8))
        self.assertEqual([great.fewest, great.turn(100), great.lead(199, "h", 100)], [200, 100, 100])

    def test_equal_to_itself_alone(self):
        bench = Bench(EVEN)
        self.assertTrue(bench == bench)
        self.assertFalse(bench != bench)
        for other in (Bench(EVEN), EVEN, None, "bench"):
            self.assertFalse(bench == other)
            self.assertTrue(bench != other)
        self.assertTrue(bool(bench))
        self.assertTrue(bool(Bench(no_rows(1))))
        for name in ("reader", "fewest", "changes", "log"):
            self.assertIsInstance(vars(Bench)[name], property)
        for name in ("lead", "turn", "grow", "undo", "trial", "tried"):
            self.assertIn(name, vars(Bench))
        self.assertEqual(benches.Bench.__module__, "rowreaders.benches")

    def test_undo(self):
        bench = Bench(AB)
        self.fails(NothingToUndo, bench.undo)
        bench.turn(0)
        self.assertIsNone(bench.undo())
        self.assertEqual((bench.reader, bench.changes, bench.log, bench.fewest), (AB, 0, (), 2))
        self.fails(NothingToUndo, bench.undo)
        for _ in range(60):
            bench.turn(1)
        for left in range(59, -1, -1):
            bench.undo()
            self.assertEqual((bench.changes, len(bench.log)), (left, left))
        self.fails(NothingToUndo, bench.undo)
        self.assertEqual(bench.reader, AB)


class WrongTest(Case):
    def assert_kept(self, bench, error, call, **attributes):
        before = (bench.reader, bench.fewest, bench.changes, bench.log)
        self.fails(error, call, **attributes)
        self.assertEqual((bench.reader, bench.fewest, bench.changes, bench.log), before)

    def test_in_their_order(self):
        self.fails_for_all(NotAReader, Bench, NOT_READERS)
        bench = Bench(EVEN)
        bench.turn(0)
        stands = NOT_INTEGERS + [-1, 2, 200, 10 ** 59, -10 ** 59, "a"]
        for stand in stands:
            self.assert_kept(bench, InvalidStand, lambda: bench.lead(stand, "c", 9), given=stand)
            self.assert_kept(bench, InvalidStand, lambda: bench.turn(stand), given=stand)
            if stand is not None:
                self.assert_kept(bench, InvalidStand, lambda: bench.lead(1, "b", stand), given=stand)
        for sign in NOT_SIGNS:
            self.assert_kept(bench, InvalidSign, lambda: bench.lead(1, sign, 9), given=sign)
        self.assert_kept(bench, InvalidSign, lambda: Bench(cycle(3)).lead(0, "b", 0), given="b")

    def test_sixty_changes(self):
        bench = Bench(EVEN)
        for turn in range(60):
            bench.turn(turn & 1)
        for call in (lambda: bench.turn(0), lambda: bench.lead(0, "a", None), lambda: bench.lead(0, "a", 1), bench.grow):
            self.assert_kept(bench, TooMany, call, limit=60)
        # Errors of the parameters come first.
        self.assert_kept(bench, InvalidStand, lambda: bench.turn(2), given=2)
        self.assert_kept(bench, InvalidSign, lambda: bench.lead(0, "c", None), given="c")
        self.assert_kept(bench, InvalidStand, lambda: bench.lead(0, "a", 2), given=2)
        bench.undo()
        self.assertEqual(bench.grow(), 1)
        self.assert_kept(bench, TooMany, lambda: bench.lead(2, "a", 2), limit=60)

    def test_two_hundred_stands(self):
        bench = Bench(cycle(199))
        self.assertEqual(bench.grow(), 199)
        self.assert_kept(bench, TooMany, bench.grow, limit=200)
        for turn in range(59):
            bench.turn(turn)
        self.assert_kept(bench, TooMany, bench.grow, limit=200)
        self.assert_kept(bench, TooMany, lambda: bench.turn(0), limit=60)
        bench.undo()
        self.assert_kept(bench, TooMany, bench.grow, limit=200)


class TrialTest(Case):
    def state(self, bench):
        return bench.reader, bench.fewest, bench.changes, bench.log

    def some_bench(self):
        bench = Bench(EVEN)
        bench.turn(1)
        bench.grow()
        return bench

    def test_behind_it_all_is_as_it_was(self):
        bench = self.some_bench()
        before = self.state(bench)
        with bench.trial() as held:
            self.assertIs(held, bench)
            self.assertEqual(self.state(bench), before)
            bench.lead(2, "a", 0)
            bench.turn(2)
            self.assertEqual(bench.changes, 4)
        self.assertEqual(self.state(bench), before)
        # Also where changes of before were taken back, and others were made.
        with bench.trial():
            bench.undo()
            bench.undo()
            self.fails(NothingToUndo, bench.undo)
            bench.lead(0, "b", None)
            bench.lead(0, "b", 1)
            bench.lead(0, "b", 0)
        self.assertEqual(self.state(bench), before)
        bench.undo()
        self.assertEqual(self.state(bench), (Reader(2, ((1, 0), (0, 1)), (0, 1)), 1, 1, ("turn 1",)))
        bench.undo()
        self.assertEqual(self.state(bench), (EVEN, 2, 0, ()))

    def test_errors_and_returns(self):
        bench = self.some_bench()
        before = self.state(bench)

        def fails():
            with bench.trial():
                bench.turn(0)
                raise KeyError("of the caller")

        def returns():
            with bench.trial():
                bench.turn(0)
                return bench.log
        self.fails(KeyError, fails)
        self.assertEqual(self.state(bench), before)
        self.assertEqual(returns(), ("turn 1", "grow", "turn 0"))
        self.assertEqual(self.state(bench), before)
        with self.assertRaises(InvalidStand):
            with bench.trial():
                bench.turn(0)
                bench.turn(3)
        self.assertEqual(self.state(bench), before)
        for _ in range(3):
            with bench.trial():
                bench.turn(0)
                break
        self.assertEqual(self.state(bench), before)

    def test_trials_in_trials(self):
        bench = self.some_bench()
        before = self.state(bench)
        trial = bench.trial()
        # A trial begins where its rows begin, not where it is made.
        bench.turn(0)
        with trial as held:
            held.turn(0)
            inner = self.state(bench)
            with trial:
                bench.undo()
                bench.undo()
                with bench.trial():
                    bench.undo()
                    self.assertEqual(bench.changes, 1)
                self.assertEqual(bench.changes, 2)
            self.assertEqual(self.state(bench), inner)
        self.assertEqual(bench.changes, 3)
        bench.undo()
        self.assertEqual(self.state(bench), before)
        for _ in range(2):
            with trial:
                bench.grow()
                self.assertEqual(bench.changes, 3)
            self.assertEqual(self.state(bench), before)
        with self.assertRaises(KeyError):
            with trial:
                bench.grow()
                with trial:
                    bench.grow()
                    raise KeyError("of the caller")
        self.assertEqual(self.state(bench), before)

    def test_sixty_changes_and_trials(self):
        bench = Bench(EVEN)
        for _ in range(60):
            bench.turn(0)
        with bench.trial():
            self.fails(TooMany, bench.grow, limit=60)
            bench.undo()
            bench.grow()
        self.assertEqual((bench.changes, len(bench.reader)), (60, 2))

    def test_tried(self):
        bench = self.some_bench()
        before = self.state(bench)
        self.assertEqual(bench.tried(lambda held: held.turn(0)), 2)
        self.assertEqual(self.state(bench), before)
        self.assertIs(bench.tried(action=lambda held: held), bench)
        self.assertIsNone(bench.tried(lambda held: held.undo()))
        self.assertEqual(self.state(bench), before)
        self.fails(ZeroDivisionError, lambda: bench.tried(lambda held: held.turn(0) // 0))
        self.fails(InvalidStand, lambda: bench.tried(lambda held: held.turn(5)), given=5)
        self.assertEqual(bench.tried(lambda held: held.tried(lambda inner: inner.grow()) + held.changes), 3)
        self.assertEqual(self.state(bench), before)
