"""rowreaders.weighers."""

import itertools
import random

from helpers import AB, EVEN, LETTERS, NOT_INTEGERS, NOT_READERS, NOT_ROWS, STRANGE, Case, chain, cycle, is_yes
from helpers import rows_up_to, some_guessers, some_readers, with_useless
from test_counts import rank

from rowreaders import weighers
from rowreaders.errors import InvalidNumber, InvalidRow, InvalidSigns, InvalidSteps, InvalidWeights
from rowreaders.errors import NotAGuesser, NotAReader, NotAWeigher, TooMany, UnlikeSigns
from rowreaders.guessers import Guesser, guesser_of, ways_of
from rowreaders.readers import Reader, all_rows, no_rows
from rowreaders.weighers import Weigher, first_unlike, order_of, product_of, same_values, sum_of, total, value
from rowreaders.weighers import ways_weigher, weigher_of

OF_B = Weigher(2, (1, 0), (((1, 0), (0, 1)), ((1, 1), (0, 1))), (0, 1))
OF_A = Weigher(2, (1, 0), (((1, 1), (0, 1)), ((1, 0), (0, 1))), (0, 1))
NOTHING = Weigher(2, (0,), (((0,),), ((0,),)), (0,))
ONE = Weigher(1, (1,), (((2,),),), (3,))
NOT_WEIGHERS = NOT_READERS + [EVEN, (2, (1,), (((1,),),) * 2, (1,)), guesser_of(EVEN)]
WRONG_LENGTHS = NOT_INTEGERS + [-1, 201, 10 ** 59, -10 ** 59]


def some_weigher(chance, signs, size, most):
    """A weigher made by chance."""
    def row():
        return tuple(chance.choice([0, chance.randint(-most, most)]) for _ in range(size))
    return Weigher(signs, row(), tuple(tuple(row() for _ in range(size)) for _ in range(signs)), row())


def some_weighers(seed, many, signs, most=3):
    chance = random.Random(seed)
    return [some_weigher(chance, signs, chance.randint(1, 4), most) for _ in range(many)]


def value_plainly(weigher, row):
    """The value, all ways through the places one by one."""
    numbers = list(weigher.begins)
    for sign in row:
        table = weigher.tables[LETTERS.index(sign)]
        numbers = [sum(numbers[at] * table[at][place] for at in range(weigher.size))
                   for place in range(weigher.size)]
    return sum(number * goal for number, goal in zip(numbers, weigher.goals))


def order_plainly(weigher, most):
    """The rank of the values of rows put together of two rows up to this length."""
    rows = list(rows_up_to(weigher.signs, most))
    return max(1, rank([[value_plainly(weigher, front + rest) for rest in rows] for front in rows]))


SMALL = some_weighers(121, 25, 1) + some_weighers(122, 25, 2) + [OF_B, OF_A, NOTHING, ONE]
SMALL += some_weighers(123, 4, 3) + some_weighers(124, 4, 2, 1000)


class WeigherTest(Case):
    def test_what_is_made_is_told_again(self):
        tables = (((1, -2), (0, 3)), ((1000, -1000), (5, 7)), ((0, 0), (0, 0)))
        made = self.named(Weigher, signs=3, begins=(0, 4), tables=tables, goals=(-1, 1))
        self.assertEqual((made.signs, made.size, made.begins, made.tables, made.goals),
                         (3, 2, (0, 4), tables, (-1, 1)))
        self.assertTrue(made)
        for name in ("signs", "size", "begins", "tables", "goals"):
            self.assertIsInstance(vars(Weigher)[name], property)
        self.assertIn("__eq__", vars(Weigher))
        for name in ("Weigher", "value", "total", "order_of", "same_values", "first_unlike", "sum_of", "product_of",
                     "weigher_of", "ways_weigher"):
            self.assertEqual(getattr(weighers, name).__module__, "rowreaders.weighers")

    def test_equality(self):
        parts = [2, (1, 0), (((1, 0), (0, 1)), ((1, 1), (0, 1))), (0, 1)]
        self.assertTrue(Weigher(*parts) == OF_B)
        self.assertFalse(Weigher(*parts) != OF_B)
        for other in (OF_A, Weigher(2, (1, 1), parts[2], (0, 1)), Weigher(2, (1, 0), parts[2], (0, 2)),
                      Weigher(3, (1, 0), parts[2] + parts[2][:1], (0, 1)), tuple(parts), None, EVEN):
            self.assertFalse(OF_B == other)
            self.assertTrue(OF_B != other)
        # Equal values alone do not make weighers equal.
        self.assertTrue(sum_of(NOTHING, NOTHING) != NOTHING)
        self.assertTrue(sum_of(OF_A, NOTHING) == sum_of(OF_A, NOTHING))

    def test_limits_of_numbers(self):
        for number in (-1000, 1000):
            made = Weigher(1, (number,), (((number,),),), (number,))
            self.assertEqual((made.begins, made.tables, made.goals), ((number,), (((number,),),), (number,)))
        for number in (-1001, 1001, True, False, "1", None, (1,), [1], 10 ** 59):
            self.fails_with(InvalidWeights, 1, (1, (number,), (((number,),),), (number,)))
            self.fails_with(InvalidWeights, 2, (1, (1,), (((number,),),), (number,)))
            self.fails_with(InvalidWeights, 3, (1, (1,), (((1,),),), (number,)))

    def test_limits_of_size(self):
        for size in (1, 6):
            row = (1,) * size
            self.assertEqual(Weigher(1, row, ((row,) * size,), row).size, size)
        for size in (0, 7):
            row = (1,) * size
            self.fails_with(InvalidWeights, 1, (1, row, ((row,) * size,), row))

    def fails_with(self, error, at, parts):
        """The parts are wrong first at this one; what is behind it may be wrong, too."""
        self.fails(error, lambda: Weigher(*parts), given=parts[at])

    def test_wrong_shapes(self):
        right = (((1, 2), (3, 4)), ((5, 6), (7, 8)))
        wrong = STRANGE + [0, (1, 2), list(right), right[:1], right + right[:1], right + ((1,),), right[0],
                           (right[0], list(right[1])), (right[0], ((5, 6), [7, 8])), (right[0], ((5, 6),)),
                           (right[0], ((5, 6), (7, 8), (9, 9))), (right[0], ((5, 6), (7,))),
                           (right[0], ((5, 6), (7, 8, 9))), (right[0], ((5, 6), (7, True))),
                           (right[0], ((5, 6), (7, 1001))), (right[0], ((5, 6), 7)), (right[0], None)]
        for tables in wrong:
            self.fails_with(InvalidWeights, 2, (2, (1, 2), tables, "goals"))
        for goals in STRANGE + [0, [1, 2], (1,), (1, 2, 3), (1, "2"), (1, False), (1, -1001)]:
            self.fails_with(InvalidWeights, 3, (2, (1, 2), right, goals))
        for begins in STRANGE + [0, [1, 2], (1, None), (1, True)]:
            if begins != ():
                self.fails_with(InvalidWeights, 1, (2, begins, "tables", "goals"))
        for signs in NOT_INTEGERS + [0, 9, -1, 10 ** 59]:
            self.fails_with(InvalidSigns, 0, (signs, "begins", "tables", "goals"))

    def test_nothing_is_altered(self):
        before = (OF_B.begins, OF_B.tables, OF_B.goals)
        for call in (order_of, lambda made: sum_of(made, made), lambda made: product_of(made, OF_A)):
            call(OF_B)
        self.assertEqual((OF_B.begins, OF_B.tables, OF_B.goals), before)


class ValueTest(Case):
    def test_against_all_short_rows(self):
        for weigher in SMALL:
            by_length = {}
            for row in rows_up_to(weigher.signs, 5):
                found = value(weigher, row)
                self.assertEqual(found, value_plainly(weigher, row))
                self.assertIs(type(found), int)
                by_length[len(row)] = by_length.get(len(row), 0) + found
            for length, found in by_length.items():
                self.assertEqual(total(weigher, length), found)

    def test_edges(self):
        self.assertEqual(self.named(value, weigher=OF_B, row="abb"), 2)
        self.assertEqual(self.named(total, weigher=OF_B, length=3), 12)
        self.assertEqual([value(ONE, ""), value(ONE, "a" * 200), total(ONE, 0), total(ONE, 200)],
                         [3, 3 * 2 ** 200, 3, 3 * 2 ** 200])
        great = Weigher(8, (1000,) * 6, ((((1000,) * 6,) * 6),) * 8, (1000,) * 6)
        self.assertEqual(value(great, "h" * 200), 6 * 1000 * 6000 ** 200 * 1000)
        self.assertEqual(total(great, 200), 6 * 1000 * 48000 ** 200 * 1000)

    def test_wrong_values(self):
        self.fails_for_all(NotAWeigher, lambda given: value(given, 5), NOT_WEIGHERS)
        self.fails_for_all(InvalidRow, lambda given: value(OF_B, given), NOT_ROWS + ["c", "a" * 201])
        self.fails_for_all(NotAWeigher, lambda given: total(given, -1), NOT_WEIGHERS)
        self.fails_for_all(InvalidNumber, lambda given: total(OF_B, given), WRONG_LENGTHS)


class OrderTest(Case):
    def test_plainly(self):
        for weigher in SMALL:
            most = {1: 5, 2: 3, 3: 2}[weigher.signs]
            if weigher.size <= most + 1:
                self.assertEqual(order_of(weigher), order_plainly(weigher, most))
        for one, two in zip(SMALL[25:35], SMALL[30:40]):
            both = product_of(one, two)
            if both.size <= 4:
                self.assertEqual(order_of(both), order_plainly(both, 3))
            both = sum_of(one, two)
            if both.size <= 4:
                self.assertEqual(order_of(both), order_plainly(both, 3))

    def test_edges(self):
        self.assertEqual(self.named(order_of, weigher=OF_B), 2)
        self.assertEqual(order_of(NOTHING), 1)
        self.assertEqual(order_of(sum_of(OF_A, OF_B)), 2)
        # Numbers that come from the begins, but not to the goals, and the other way round.
        self.assertEqual(order_of(Weigher(1, (1, 0), (((1, 1), (0, 1)),), (1, 0))), 1)
        self.assertEqual(order_of(Weigher(1, (0, 1), (((1, 1), (0, 1)),), (0, 1))), 1)
        self.assertEqual(order_of(Weigher(1, (1, 0), (((0, 1), (0, 0)),), (0, 0))), 1)
        self.assertEqual(order_of(Weigher(1, (1, 0), (((0, 1), (1, 0)),), (1, 1))), 1)
        # What b makes is half of what stood there and of what a makes together.
        half = Weigher(2, (1, 1, 0), (((1, 0, 0), (0, -1, 0), (0, 0, 1)), ((1, 0, 0), (0, 0, 0), (0, 0, 1))), (2, 3, 5))
        self.assertEqual(order_of(half), 2)
        halves = Weigher(1, (1, 0), (((0, 1), (2, 0)),), (2, 3))
        self.assertEqual([value(halves, "a" * length) for length in range(4)], [2, 3, 4, 6])
        self.assertEqual(order_of(halves), 2)
        thirds = Weigher(1, (3, 3, 0), (((0, 1, 0), (0, 0, 1), (1, 0, 0)),), (1, 1, 1))
        self.assertEqual(order_of(thirds), 1)

    def test_great_numbers(self):
        chance = random.Random(125)
        for signs in (1, 2, 8):
            one, two = (some_weigher(chance, signs, 6, 1000) for _ in range(2))
            both = product_of(one, two)
            self.assertEqual(order_of(both), order_of(one) * order_of(two))
            # The product of a weigher with itself has the same value whichever of both is asked.
            self.assertEqual(order_of(product_of(one, one)), order_of(one) * (order_of(one) + 1) // 2)
        # Modulo the numbers that one may reckon by, all values are 0, but they are not.
        for prime in (2 ** 13 - 1, 2 ** 17 - 1, 2 ** 19 - 1, 2 ** 31 - 1, 2 ** 61 - 1, 2 ** 89 - 1):
            times = multiplied(prime)
            self.assertEqual([value(times, ""), value(times, "a")], [prime, prime])
            self.assertEqual(order_of(times), 1)
            self.assertEqual(first_unlike(times, constant(0)), "")
            self.assertEqual(order_of(product_of(times, Weigher(1, (1, 0), (((0, 1), (1, 1)),), (1, 2)))), 2)
            self.assertIs(same_values(sum_of(times, times), multiplied(2 * prime)), True)
            self.assertIs(same_values(sum_of(times, times), multiplied(prime)), False)


def constant(number):
    """A weigher of one sign and one place that gives each row this number."""
    return Weigher(1, (1,), (((1,),),), (number,))


def multiplied(number):
    """A weigher of one sign that gives each row a great number, made of small ones by sums and products."""
    made = constant(0)
    for figure in range(9, -1, -1):
        made = sum_of(product_of(made, constant(1000)), constant(number // 1000 ** figure % 1000))
    return made


class AlikeTest(Case):
    def test_plainly(self):
        for signs, most in ((1, 8), (2, 5)):
            some = [weigher for weigher in SMALL if weigher.signs == signs][:14]
            some += [sum_of(some[0], some[1]), sum_of(some[1], some[0]), product_of(some[2], some[3]),
                     product_of(some[3], some[2])]
            for one, two in itertools.product(some, some):
                rows = [row for row in rows_up_to(signs, most) if value_plainly(one, row) != value_plainly(two, row)]
                found = first_unlike(one, two)
                self.assertIs(same_values(one, two), found is None)
                if rows:
                    self.assertEqual(found, rows[0])
                else:
                    self.assertTrue(found is None or len(found) > most)
            self.assertIs(same_values(some[14], some[15]), True)
            self.assertIs(same_values(some[16], some[17]), True)

    def test_first_in_the_order_of_rows(self):
        readers = some_readers(126, 12, 2, 5) + some_readers(127, 6, 3, 3)
        for one, two in itertools.product(readers, readers):
            if one.signs == two.signs:
                apart = [row for row in rows_up_to(one.signs, 5) if is_yes(one, row) != is_yes(two, row)]
                found = first_unlike(weigher_of(one), weigher_of(two))
                if apart:
                    self.assertEqual(found, apart[0])
                else:
                    self.assertTrue(found is None or len(found) > 5)

    def test_edges(self):
        self.assertEqual(self.named(first_unlike, weigher=OF_A, other=OF_B), "a")
        self.assertIs(self.named(same_values, weigher=OF_A, other=OF_B), False)
        self.assertIsNone(first_unlike(OF_A, OF_A))
        # The longest rows that may be needed: each sign more comes to one more place.
        self.assertEqual(first_unlike(weigher_of(chain((35,))), weigher_of(no_rows(1))), "a" * 35)
        self.assertEqual(first_unlike(weigher_of(cycle(35)), weigher_of(cycle(36))), "a" * 35)
        late, others = Reader(1, cycle(35).arrows, (34,)), Reader(1, cycle(36).arrows, tuple(range(36))[:-1])
        both = product_of(weigher_of(cycle(6)), weigher_of(cycle(5)))
        self.assertEqual(first_unlike(both, weigher_of(cycle(30))), None)
        self.assertEqual(first_unlike(product_of(weigher_of(late), constant(1)), weigher_of(others)), "")
        self.assertEqual(order_of(both), 30)

    def test_wrong_values(self):
        for call in (same_values, first_unlike, sum_of, product_of):
            self.fails_for_all(NotAWeigher, lambda given: call(given, "other"), NOT_WEIGHERS)
            self.fails_for_all(NotAWeigher, lambda given: call(OF_B, given), NOT_WEIGHERS)
            self.fails(UnlikeSigns, lambda: call(OF_B, ONE))
            self.fails(UnlikeSigns, lambda: call(ONE, OF_B))
        self.fails_for_all(NotAWeigher, order_of, NOT_WEIGHERS)


class MadeTest(Case):
    def test_sums_and_products(self):
        for signs, most in ((1, 7), (2, 4)):
            some = [weigher for weigher in SMALL if weigher.signs == signs][:14]
            for one, two in itertools.product(some, some):
                more, times = sum_of(one, two), product_of(one, two)
                self.assertEqual([more.size, times.size], [one.size + two.size, one.size * two.size])
                self.assertEqual([more.signs, times.signs], [signs, signs])
                for row in rows_up_to(signs, most):
                    first, second = value_plainly(one, row), value_plainly(two, row)
                    self.assertEqual(value(more, row), first + second)
                    self.assertEqual(value(times, row), first * second)

    def test_shapes(self):
        for made in (sum_of(OF_A, OF_B), product_of(OF_A, OF_B), weigher_of(EVEN), ways_weigher(guesser_of(EVEN))):
            self.assertIs(type(made), Weigher)
            for part in (made.begins, made.goals, made.tables, *made.tables, *made.tables[0]):
                self.assertIs(type(part), tuple)
            self.assertEqual(len(made.tables), 2)
            for row in (made.begins, made.goals, *made.tables[0], *made.tables[1]):
                self.assertEqual([type(number) for number in row], [int] * made.size)
            for table in made.tables:
                self.assertEqual(len(table), made.size)

    def test_as_great_as_can_be(self):
        row = (1,) * 6
        six, five = Weigher(1, row, ((row,) * 6,), row), Weigher(1, row[:5], ((row[:5],) * 5,), row[:5])
        thirty = sum_of(sum_of(sum_of(six, six), sum_of(six, six)), six)
        self.assertEqual(self.named(sum_of, weigher=thirty, other=six).size, 36)
        self.assertEqual(self.named(product_of, weigher=six, other=six).size, 36)
        most = product_of(six, six)
        self.assertEqual(product_of(most, ONE).size, 36)
        self.fails(TooMany, lambda: sum_of(most, ONE), limit=36)
        self.fails(TooMany, lambda: sum_of(ONE, most), limit=36)
        seven, six_more = sum_of(six, ONE), sum_of(five, ONE)
        self.fails(TooMany, lambda: product_of(seven, six_more), limit=36)
        self.fails(TooMany, lambda: product_of(weigher_of(cycle(37 - 1)), sum_of(ONE, ONE)), limit=36)
        self.fails(UnlikeSigns, lambda: sum_of(most, OF_B))
        self.fails(UnlikeSigns, lambda: product_of(most, OF_B))

    def test_made_ones_may_be_passed_on(self):
        one = Weigher(2, (1000, -7), (((3, -1000), (5, 0)), ((1, 2), (3, 4))), (9, 1000))
        two = Weigher(2, (-1, 1000), (((0, 1), (1000, 5)), ((1, -2), (0, 4))), (1, 999))
        great = product_of(product_of(one, two), product_of(two, product_of(one, OF_B)))
        self.assertGreater(max(abs(number) for number in great.begins + great.goals), 1000)
        rows = list(rows_up_to(2, 3))
        self.assertEqual([value(great, row) for row in rows], [value_plainly(great, row) for row in rows])
        self.assertEqual(total(great, 3), sum(value(great, row) for row in rows[7:]))
        self.assertLessEqual(order_of(great), 32)
        self.assertIs(same_values(great, great), True)
        self.assertEqual(first_unlike(great, sum_of(great, OF_B)), first_unlike(NOTHING, OF_B))


class OfReaderTest(Case):
    def test_plainly(self):
        readers = some_readers(129, 30, 2, 6) + [EVEN, AB, no_rows(2), all_rows(2)]
        for reader in readers + [with_useless(reader) for reader in readers]:
            made = weigher_of(reader)
            for row in rows_up_to(2, 6):
                self.assertEqual(value(made, row), int(is_yes(reader, row)))
            self.assertEqual(made.size, len(weigher_of(reader).begins))
            self.assertEqual(order_of(made), weigher_of(with_useless(reader)).size if first(reader) else 1)

    def test_edges(self):
        self.assertEqual(self.named(weigher_of, reader=EVEN).size, 2)
        self.assertEqual([weigher_of(no_rows(8)).size, weigher_of(all_rows(8)).size], [1, 1])
        self.assertEqual(weigher_of(cycle(36)).size, 36)
        self.assertEqual(order_of(weigher_of(cycle(36))), 36)
        self.fails(TooMany, lambda: weigher_of(cycle(37)), limit=36)
        self.fails(TooMany, lambda: weigher_of(chain((36,))), limit=36)
        self.assertEqual(weigher_of(chain((35,))).size, 36)
        # More stands, but not of the least reader.
        self.assertEqual(weigher_of(Reader(1, cycle(200).arrows, tuple(range(0, 200, 2)))).size, 2)
        self.fails_for_all(NotAReader, weigher_of, NOT_READERS)


def first(reader):
    """Whether some row of up to six signs is a yes row."""
    return any(is_yes(reader, row) for row in rows_up_to(reader.signs, 6))


class WaysTest(Case):
    def test_against_ways(self):
        kinds = []
        for guesser in some_guessers(130, 250):
            rows = list(rows_up_to(guesser.signs, 5 if guesser.signs < 3 else 3))
            found = [ways_of(guesser, row) for row in rows]
            kinds.append(None in found)
            if None in found:
                self.fails(InvalidSteps, lambda: ways_weigher(guesser), given=guesser.steps)
            else:
                made = ways_weigher(guesser)
                self.assertEqual([made.signs, made.size], [guesser.signs, guesser.size])
                self.assertEqual([value(made, row) for row in rows], found)
        self.assertGreater(kinds.count(True), 5)

    def test_edges(self):
        marks = Guesser(2, 2, (0,), ((0, "a", 0), (0, "a", 1), (0, "b", 0), (1, "a", 1), (1, "b", 1)), (1,))
        self.assertEqual(value(self.named(ways_weigher, guesser=marks), "aab"), 2)
        self.assertIs(same_values(ways_weigher(marks), OF_A), True)
        # Rounds without a sign that are on no way do not matter, nor are they counted.
        aside = Guesser(1, 4, (0,), ((0, "", 2), (0, "a", 0), (1, "", 0), (1, "", 1), (2, "", 2)), (0,))
        self.assertEqual([value(ways_weigher(aside), "a" * length) for length in range(3)], [1, 1, 1])
        inside = Guesser(1, 2, (0,), ((0, "", 1), (1, "", 0)), (1,))
        self.fails(InvalidSteps, lambda: ways_weigher(inside), given=inside.steps)
        none = Guesser(3, 12, (), (), ())
        self.assertEqual([ways_weigher(none).size, value(ways_weigher(none), "abc"), order_of(ways_weigher(none))],
                         [12, 0, 1])
        # Two, and again two ways without a sign, with each sign: numbers far greater than a weigher may be told.
        steps = tuple((at, sign, at + 1 + far) for at in range(11) for sign in ("", "a") for far in (0, 1)
                      if at + 1 + far < 12)
        wide = Guesser(1, 12, (0,), steps + ((11, "a", 0),), (11,))
        made = ways_weigher(wide)
        for row in ("", "a", "a" * 11, "a" * 200):
            self.assertEqual(value(made, row), ways_of(wide, row))
        self.fails_for_all(NotAGuesser, ways_weigher, NOT_READERS + [EVEN, OF_B])
