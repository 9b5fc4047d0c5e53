"""rowreaders.counts."""

import random
from fractions import Fraction
from math import gcd

from helpers import AB, EVEN, NOT_READERS, Case, chain, cycle, every_reader, some_reader, some_readers, with_useless

from rowreaders import counts
from rowreaders.counts import form_of, growth, rule_of, share
from rowreaders.errors import NotAReader
from rowreaders.making import behind, both, other_rows
from rowreaders.readers import Reader, all_rows, filled, no_rows, only

FEW = only(2, ("ab", "b"))
FALLING = Reader(2, ((0, 1), (None, 1)), (0, 1))
SMALL = list(every_reader(1, 3)) + some_readers(111, 80, 2, 5) + some_readers(112, 30, 3, 4)
SMALL += some_readers(113, 10, 8, 6) + [EVEN, AB, FEW, FALLING, filled(AB)]
SMALL += [with_useless(reader) for reader in SMALL[100:140]]


def numbers_of(reader, many):
    """How many yes rows of the first so many lengths there are."""
    numbers = [0] * len(reader)
    numbers[0] = 1
    found = []
    for _ in range(many):
        found.append(sum(numbers[end] for end in reader.ends))
        sums = [0] * len(reader)
        for stand in range(len(reader)):
            for goal in reader.arrows[stand]:
                if goal is not None:
                    sums[goal] += numbers[stand]
        numbers = sums
    return found


def rank(rows):
    """The rank of rows of fractions."""
    rows = [list(map(Fraction, row)) for row in rows]
    many = 0
    for column in range(len(rows[0]) if rows else 0):
        fit = [at for at in range(many, len(rows)) if rows[at][column]]
        if fit:
            rows[many], rows[fit[0]] = rows[fit[0]], rows[many]
            for at in range(many + 1, len(rows)):
                times = rows[at][column] / rows[many][column]
                rows[at] = [one - times * other for one, other in zip(rows[at], rows[many])]
            many += 1
    return many


def worked_out(top, bottom, many):
    """The first so many factors of top divided by bottom."""
    found = []
    for at in range(many):
        number = top[at] if at < len(top) else 0
        for back in range(1, min(at, len(bottom) - 1) + 1):
            number -= bottom[back] * found[at - back]
        found.append(number)
    return found


class FormTest(Case):
    def test_against_counting(self):
        for reader in SMALL:
            many = 4 * len(reader) + 10
            numbers = numbers_of(reader, many)
            top, bottom = form_of(reader)
            for part in (top, bottom):
                self.assertIsInstance(part, tuple)
                self.assertTrue(all(type(factor) is int for factor in part))
                self.assertTrue(not part or part[-1] != 0)
            self.assertEqual(bottom[0], 1)
            self.assertEqual(worked_out(top, bottom, many), numbers)

            rule = rule_of(reader)
            self.assertIsInstance(rule, tuple)
            self.assertTrue(all(type(factor) is int for factor in rule))
            for at in range(many - len(rule)):
                self.assertEqual(sum(factor * numbers[at + back] for back, factor in enumerate(rule)),
                                 numbers[at + len(rule)])

    def test_as_short_as_can_be(self):
        for reader in SMALL:
            # A rule of length d makes rows of numbers, each one place behind the one before, of which d
            # are not sums of others; so the rank is the length of the shortest rule.
            size = len(reader) + 1
            numbers = numbers_of(reader, 2 * size)
            least = rank([numbers[at:at + size] for at in range(size)])
            self.assertEqual(len(rule_of(reader)), least)
            top, bottom = form_of(reader)
            self.assertEqual(max(len(top), len(bottom) - 1), least)
            # What of the rule is for the first numbers alone is no part of bottom.
            later = [numbers_of(reader, 3 * size)[at + size:at + 2 * size] for at in range(size)]
            self.assertEqual(len(bottom) - 1, rank(later))

    def test_edges(self):
        self.assertEqual(self.named(form_of, reader=no_rows(2)), ((), (1,)))
        self.assertEqual(self.named(rule_of, reader=no_rows(2)), ())
        self.assertEqual([form_of(only(3, ("",))), rule_of(only(3, ("",)))], [((1,), (1,)), (0,)])
        self.assertEqual([form_of(FEW), rule_of(FEW)], [((0, 1, 1), (1,)), (0, 0, 0)])
        self.assertEqual([form_of(FALLING), rule_of(FALLING)], [((1,), (1, -2, 1)), (-1, 2)])
        for signs in range(1, 9):
            self.assertEqual([form_of(all_rows(signs)), rule_of(all_rows(signs))], [((1,), (1, -signs)), (signs,)])
            self.assertEqual(form_of(Reader(signs, ((0,) * signs,), ())), ((), (1,)))
        # All but the empty row, and all from length 3 on: a rule that begins later than its numbers.
        self.assertEqual([form_of(other_rows(only(2, ("",)))), rule_of(other_rows(only(2, ("",))))],
                         [((0, 2), (1, -2)), (0, 2)])
        late = Reader(1, ((1,), (2,), (3,), (3,)), (3,))
        self.assertEqual([form_of(late), rule_of(late)], [((0, 0, 0, 1), (1, -1)), (0, 0, 0, 1)])

    def test_great_readers(self):
        self.assertEqual(rule_of(cycle(200)), (1,) + (0,) * 199)
        self.assertEqual(form_of(cycle(200, 8))[1], (1,) + (0,) * 199 + (-8 ** 200,))
        self.assertEqual([form_of(chain((199,), 8)), len(rule_of(chain((199,), 8)))], [((0,) * 199 + (8 ** 199,), (1,)), 200])
        for signs in (2, 8):
            great = some_reader(random.Random(114), signs, 200, 0.1)
            top, bottom = form_of(great)
            numbers = numbers_of(great, 450)
            self.assertEqual(worked_out(top, bottom, 450), numbers)
            self.assertEqual(len(rule_of(great)), max(len(top), len(bottom) - 1))
            self.assertLessEqual(len(rule_of(great)), 200)

    def test_wrong_values(self):
        for call in (form_of, rule_of, growth, share):
            self.fails_for_all(NotAReader, call, NOT_READERS)
            self.assertEqual(call.__module__, "rowreaders.counts")
        self.assertEqual(counts.form_of, form_of)


class GrowthTest(Case):
    def test_against_counting(self):
        kinds = set()
        for reader in SMALL + [behind(FALLING, FALLING), behind(FALLING, behind(FALLING, FALLING))]:
            found = growth(reader)
            kinds.add(found)
            numbers = numbers_of(reader, 801)
            early, late = max(numbers[190:200]), max(numbers[790:800])
            if found == -1:
                self.assertEqual(late, 0)
            elif found is None:
                self.assertGreater(late, 10 ** 9 * early)
            else:
                # From length 200 to 800 numbers grow 4 ** found times, but for what less great powers add.
                self.assertGreater(late, 4 ** found // 2 * early)
                self.assertLess(late, 2 * 4 ** found * early)
        self.assertGreaterEqual(kinds, {-1, 0, 1, 3, 5, None})

    def test_edges(self):
        self.assertEqual(self.named(growth, reader=FEW), -1)
        self.assertEqual([growth(no_rows(2)), growth(only(1, ("",))), growth(chain((199,)))], [-1, -1, -1])
        self.assertEqual([growth(AB), growth(cycle(200)), growth(all_rows(1))], [0, 0, 0])
        self.assertEqual([growth(all_rows(2)), growth(EVEN), growth(cycle(200, 2))], [None, None, None])
        self.assertEqual(growth(Reader(2, ((0, 1), (None, 1)), (1,))), 1)
        for many in (2, 8, 50):
            stairs = Reader(2, tuple((at, at + 1 if at + 1 < many else None) for at in range(many)), (many - 1,))
            self.assertEqual(growth(stairs), many - 1)
        # Rounds that are side by side do not help each other, useless ones do not count.
        beside = Reader(3, ((1, 2, None), (1, None, None), (None, 2, None)), (1, 2))
        self.assertEqual(growth(beside), 0)
        self.assertEqual(growth(Reader(2, ((1, 2), (None, None), (2, 2)), (1,))), -1)
        # One round with two arrows side by side, and two rounds through one stand.
        self.assertIsNone(growth(Reader(2, ((1, 1), (0, None)), (0,))))
        self.assertIsNone(growth(Reader(2, ((0, 1), (0, None)), (0,))))


class ShareTest(Case):
    def test_against_counting(self):
        for reader in SMALL:
            found = self.check_fraction(share(reader))
            many = 3000 if reader.signs == 1 else 600
            parts = numbers_of(reader, many)
            mean = sum(number * reader.signs ** (many - at) for at, number in enumerate(parts))
            self.assertLess(abs(Fraction(mean, many * reader.signs ** many) - found), Fraction(1, 25))

    def check_fraction(self, found):
        self.assertIsInstance(found, tuple)
        part, parts = found
        self.assertEqual([type(part), type(parts)], [int, int])
        self.assertGreaterEqual(parts, 1)
        self.assertEqual(gcd(part, parts), 1)
        return Fraction(part, parts)

    def test_exactly(self):
        for reader in SMALL:
            rest = other_rows(reader)
            self.assertEqual(sum(self.check_fraction(share(each)) for each in (reader, rest)), 1)

    def test_edges(self):
        self.assertEqual(self.named(share, reader=EVEN), (1, 2))
        self.assertEqual([share(no_rows(2)), share(FEW), share(FALLING), share(AB)], [(0, 1)] * 4)
        self.assertEqual([share(all_rows(signs)) for signs in range(1, 9)], [(1, 1)] * 8)
        self.assertEqual(share(other_rows(FEW)), (1, 1))
        # The parts of single lengths go round: 0 or 1, by the length.
        self.assertEqual([share(cycle(7)), share(cycle(200)), share(cycle(200, 8))], [(1, 7), (1, 200), (1, 200)])
        self.assertEqual(share(Reader(2, ((1, 1), (2, 2), (0, 0)), (0, 2))), (2, 3))
        self.assertEqual(share(both(cycle(4, 2), EVEN)), (1, 8))
        # A first sign a of three, then an even length; the first b leads to yes, the first c to no.
        first = Reader(3, ((1, 3, 4), (2, 2, 2), (1, 1, 1), (3, 3, 3), (4, 4, 4)), (1, 3))
        self.assertEqual(share(first), (1, 2))
        self.assertEqual(share(Reader(3, first.arrows, (1,))), (1, 6))
        # Until it leaves the stand 0, by b or by c, as often by the one as by the other.
        self.assertEqual(share(Reader(3, ((0, 1, 2), (1, 1, 1), (2, 2, 2)), (0, 1))), (1, 2))

    def test_great_readers(self):
        great = some_reader(random.Random(115), 4, 200, 0)
        found = self.check_fraction(share(great))
        numbers = numbers_of(great, 400)
        self.assertLess(abs(Fraction(numbers[399], 4 ** 399) - found), Fraction(1, 10 ** 9))
