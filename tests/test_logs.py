"""rowreaders.logs."""

import random

from helpers import AB, EVEN, LETTERS, NOT_READERS, STRANGE, Case, cycle, some_reader

from rowreaders import logs
from rowreaders.benches import Bench
from rowreaders.errors import InvalidLine, InvalidLog, InvalidSign, InvalidStand, NotAReader, TooMany
from rowreaders.logs import done, played
from rowreaders.readers import Reader

NO_LINES = [
    "", " ", "lead", "turn", "grow ", " grow", "grow 1", "grows", "Grow", "GROW", "gro", "grow\n", "\ngrow", "undo",
    "turn ", "turn  1", "turn 1 ", " turn 1", "turn 01", "turn 00", "turn -1", "turn +1", "turn -", "turn a", "turn 1 2",
    "turn 1\n", "turn\t1", "turn 1.0", "turn 1_0", "Turn 1", "turn one", "turn \u0661", "turn \uff11", "turn \u00b2",
    "turn 0x1", "turn None", "lead 0 a", "lead 0 a ", "lead 0 a 1 ", " lead 0 a 1", "lead 0 a 1 1", "lead  0 a 1",
    "lead 0  a 1", "lead 0 a  1", "lead 0  1", "lead 0 1", "lead a 0 1", "lead 0 i 1", "lead 0 A 1", "lead 0 ab 1",
    "lead 0 aa 1", "lead 0 0 1", "lead 00 a 1", "lead 0 a 01", "lead 0 a -1", "lead -1 a 1", "lead - a 1", "lead 0 - 1",
    "lead 0 a --", "lead 0 a None", "lead 0 a +1", "lead 0 a 1\n", "lead 0 a\n1", "lead\n0 a 1", "Lead 0 a 1",
    "lead 0 \uff41 1", "lead \u0660 a 1", "lead 0 a \u0661", "lead 0 a 1-", "lead 0,a,1", "turn 0 lead 0 a 1",
    "lead 0 a -\n", "turn 9" + "9" * 90 + "a", "turn 0" + "9" * 90]


def state(bench):
    return bench.reader, bench.fewest, bench.changes, bench.log


class DoneTest(Case):
    def test_each_kind_of_line(self):
        bench, other = Bench(EVEN), Bench(EVEN)
        for line, deed in (("turn 1", lambda: other.turn(1)), ("lead 0 a -", lambda: other.lead(0, "a", None)),
                           ("grow", other.grow), ("lead 2 b 1", lambda: other.lead(2, "b", 1)),
                           ("lead 2 b 1", lambda: other.lead(2, "b", 1)), ("turn 2", lambda: other.turn(2))):
            self.assertEqual(done(bench, line), deed())
            self.assertEqual(state(bench), state(other))
            self.assertEqual(bench.log[-1], line)
        self.assertEqual(done(line="turn 0", bench=bench), other.turn(0))
        great = Bench(cycle(200, 8))
        self.assertEqual(done(great, "lead 199 h 100"), 200)
        self.assertEqual(done(great, "turn 100"), great.fewest)
        self.assertEqual(great.log, ("lead 199 h 100", "turn 100"))

    def test_lines_that_are_none(self):
        bench = Bench(EVEN)
        before = state(bench)
        self.fails_for_all(InvalidLine, lambda given: done(bench, given), NO_LINES)
        self.fails_for_all(InvalidLine, lambda given: done(bench, given), STRANGE + [EVEN, 0, b"grow", ("grow",)])
        self.assertEqual(state(bench), before)

    def test_signs_put_in_and_left_out(self):
        """A line that is changed at a place is none, or does what its own words say."""
        for line in ("lead 10 b 3", "turn 12", "grow", "lead 0 h -"):
            for at in range(len(line) + 1):
                for more in ["", *"0129-abhi grow\n+"]:
                    for rest in (line[at:], line[at + 1:]):
                        self.assert_none_or_done(line[:at] + more + rest)

    def assert_none_or_done(self, line):
        bench = Bench(cycle(20, 8))
        try:
            done(bench, line)
        except InvalidLine as error:
            self.assertIs(error.given, line)
            self.assertNotIn(line, ["grow"] + [f"turn {stand}" for stand in range(300)])
        except InvalidStand as error:
            self.assertIn(str(error.given), line.split(" "))
            self.assertGreater(error.given, 19)
        else:
            self.assertEqual(bench.log, (line,))

    def test_errors_of_the_deeds(self):
        bench = Bench(EVEN)
        before = state(bench)
        many = "9" * 3900
        for line, error, given in (("turn 2", InvalidStand, 2), ("lead 2 c 2", InvalidStand, 2),
                                   ("lead 1 c 2", InvalidSign, "c"), ("lead 1 h -", InvalidSign, "h"),
                                   ("lead 1 a 2", InvalidStand, 2), ("turn " + many, InvalidStand, int(many)),
                                   ("lead 0 a 1" + "0" * 3000, InvalidStand, 10 ** 3000),
                                   ("lead 1" + "0" * 60 + " a -", InvalidStand, 10 ** 60)):
            with self.assertRaises(error) as caught:
                done(bench, line)
            self.assertIs(type(caught.exception), error)
            self.assertEqual(caught.exception.given, given)
            self.assertEqual(state(bench), before)
        for _ in range(60):
            done(bench, "turn 0")
        before = state(bench)
        for line in ("turn 0", "grow", "lead 0 a -"):
            self.fails(TooMany, lambda: done(bench, line), limit=60)
        self.fails(TooMany, lambda: done(Bench(cycle(200)), "grow"), limit=200)
        self.fails(InvalidLine, lambda: done(bench, "grow 1"), given="grow 1")
        self.assertEqual(state(bench), before)


class PlayedTest(Case):
    def test_played_again(self):
        chance = random.Random(81)
        for signs in (1, 3, 8):
            for _ in range(10):
                reader = some_reader(chance, signs, chance.randint(1, 5))
                bench = Bench(reader)
                for _ in range(chance.randint(0, 60)):
                    size = len(bench.reader)
                    deed = chance.randrange(3)
                    if deed == 0:
                        bench.turn(chance.randrange(size))
                    elif deed == 1:
                        bench.lead(chance.randrange(size), chance.choice(LETTERS[:signs]),
                                   chance.choice([None, *range(size)]))
                    else:
                        bench.grow()
                other = played(reader, bench.log)
                self.assertIsInstance(other, Bench)
                self.assertEqual(state(other), state(bench))
                while bench.changes:
                    bench.undo()
                    other.undo()
                    self.assertEqual(state(other), state(bench))

    def test_edges(self):
        self.assertEqual(played(EVEN, ("turn 1", "lead 0 a -")).reader, Reader(2, ((None, 0), (0, 1)), (0, 1)))
        self.assertEqual(played(lines=(), reader=AB).log, ())
        self.assertIs(played(EVEN, ()).reader, EVEN)
        self.assertEqual(played(EVEN, ("grow",) * 60).changes, 60)
        self.assertFalse(played(EVEN, ()) == played(EVEN, ()))

    def test_wrong_values(self):
        self.fails_for_all(NotAReader, lambda given: played(given, None), NOT_READERS)
        for lines in STRANGE + [["grow"], "grow", 0, iter(("grow",)), {"grow": 1}]:
            if not isinstance(lines, tuple):
                self.fails(InvalidLog, lambda: played(EVEN, lines), index=None)
        for index, lines in ((0, ("Grow",)), (1, ("grow", "turn 3")), (1, ("turn 0", "lead 0 a 2", "x")),
                             (2, ("grow", "grow", "lead 3 c 9")), (0, (None,)), (3, ("grow",) * 3 + (("grow",),)),
                             (60, ("turn 0",) * 61), (60, ("turn 0",) * 200), (2, ("grow", "turn 2", "undo")),
                             (0, ("turn " + "9" * 3900,)), (0, ([],)), (1, ("grow", True))):
            self.fails(InvalidLog, lambda: played(EVEN, lines), index=index)
        self.fails(InvalidLog, lambda: played(cycle(199), ("grow", "grow")), index=1)
        self.fails(InvalidLog, lambda: played(Reader(1, ((0,),), ()), ("lead 0 b 0",)), index=0)

    def test_where_they_stand(self):
        for name in ("done", "played"):
            self.assertEqual(getattr(logs, name).__module__, "rowreaders.logs")
