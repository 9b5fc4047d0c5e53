"""rowreaders.making."""

import itertools
import random

from helpers import AB, EVEN, LETTERS, NOT_READERS, NOT_ROWS, STRANGE, Case, chain, cycle, every_reader, goes, is_yes
from helpers import least_plainly, rows_up_to, some_reader, some_readers, useful_plainly, yes_rows

from rowreaders import making
from rowreaders.errors import InvalidRow, InvalidSigns, NotAReader, TooMany, UnlikeSigns
from rowreaders.likeness import least
from rowreaders.making import again, behind, both, either, fronts, mirrored, one_alone, other_rows, pieces, renamed
from rowreaders.making import rests_ahead, rests_behind, shuffled, strewn_pieces, struck, tails
from rowreaders.readers import Reader, all_rows, filled, no_rows, only

OF_TWO = (both, either, one_alone, behind, shuffled)
OF_ONE = (other_rows, again, mirrored, fronts, tails, pieces, strewn_pieces)
SINGLES = list(every_reader(1, 2)) + list(every_reader(2, 1)) + some_readers(51, 60, 2, 4) + some_readers(52, 30, 3, 4)
NOTHING, EMPTY, ALL = no_rows(2), only(2, ("",)), all_rows(2)
LAST_LENGTH = {1: 8, 2: 6, 3: 4}


def some_pairs(seed, many):
    chance = random.Random(seed)
    for _ in range(many):
        signs = chance.choice([1, 2, 2, 3])
        nowhere = chance.choice([0, 0.3, 0.6])
        yield (some_reader(chance, signs, chance.randint(1, 4), nowhere),
               some_reader(chance, signs, chance.randint(1, 4), nowhere))


def two_parts(row):
    """All ways to part a row in a first and a last part."""
    return [(row[:at], row[at:]) for at in range(len(row) + 1)]


def two_lots(row):
    """All ways to let the places of a row fall apart in two lots."""
    for lots in itertools.product((0, 1), repeat=len(row)):
        yield tuple("".join(sign for sign, lot in zip(row, lots) if lot == here) for here in (0, 1))


def is_again(reader, row):
    """Whether a row is made of yes rows one behind the other."""
    if not row:
        return True
    return any(is_yes(reader, row[:at]) and is_again(reader, row[at:]) for at in range(1, len(row) + 1))


def crowd_says(reader, stands, row, leapt):
    """Whether some of the stands can come to an end along the row, with signs that may be leapt over."""
    def spread(crowd):
        for stand in crowd:
            crowd += [reader.arrows[stand][LETTERS.index(sign)] for sign in leapt
                      if reader.arrows[stand][LETTERS.index(sign)] not in crowd + [None]]
        return crowd

    crowd = spread(list(stands))
    for sign in row:
        goals = {reader.arrows[stand][LETTERS.index(sign)] for stand in crowd} - {None}
        crowd = spread(list(goals))
    return any(stand in reader.ends for stand in crowd)


class MakingCase(Case):
    def assert_rows(self, made, signs, wanted, most=None):
        """What is made is a least reader, and has the rows that are wanted among all short ones."""
        self.assertIsInstance(made, Reader)
        self.assertEqual((made.signs, made.arrows, made.ends), (signs, *least_plainly(made)))
        for row in rows_up_to(signs, LAST_LENGTH[signs] if most is None else most):
            self.assertEqual(is_yes(made, row), bool(wanted(row)), row)


class OfTwoTest(MakingCase):
    def test_both_either_and_one_alone(self):
        for one, two in some_pairs(53, 120):
            self.assert_rows(both(one, two), one.signs, lambda row: is_yes(one, row) and is_yes(two, row))
            self.assert_rows(either(one, two), one.signs, lambda row: is_yes(one, row) or is_yes(two, row))
            self.assert_rows(one_alone(one, two), one.signs, lambda row: is_yes(one, row) != is_yes(two, row))

    def test_behind(self):
        for one, two in some_pairs(54, 120):
            self.assert_rows(behind(one, two), one.signs,
                             lambda row: any(is_yes(one, first) and is_yes(two, last)
                                             for first, last in two_parts(row)))

    def test_shuffled(self):
        done = 0
        for one, two in some_pairs(55, 120):
            try:
                made = shuffled(one, two)
            except TooMany:
                continue
            done += 1
            self.assert_rows(made, one.signs, lambda row: any(is_yes(one, first) and is_yes(two, last)
                                                              for first, last in two_lots(row)),
                             min(5, LAST_LENGTH[one.signs]))
        self.assertGreater(done, 90)

    def test_made_of_the_same_rows(self):
        for one, two in some_pairs(56, 30):
            for make in OF_TWO:
                try:
                    made = make(one, two)
                except TooMany:
                    continue
                self.assertEqual(make(filled(one), least(two)), made)
                if make is not behind:
                    self.assertEqual(make(two, one), made)

    def test_none_the_empty_row_and_all(self):
        for reader in [ALL, EMPTY, NOTHING, EVEN, AB, only(2, ("ab", "b"))]:
            small = least(reader)
            self.assertEqual([both(reader, ALL), both(reader, NOTHING)], [small, NOTHING])
            self.assertEqual([either(reader, ALL), either(reader, NOTHING)], [ALL, small])
            self.assertEqual([one_alone(reader, ALL), one_alone(reader, NOTHING)], [other_rows(reader), small])
            self.assertEqual(one_alone(reader, reader), NOTHING)
            for make in (behind, shuffled):
                self.assertEqual([make(reader, EMPTY), make(EMPTY, reader)], [small, small])
                self.assertEqual([make(reader, NOTHING), make(NOTHING, reader)], [NOTHING, NOTHING])
        self.assertEqual(behind(ALL, ALL), ALL)
        self.assertEqual(shuffled(ALL, ALL), ALL)
        self.assertEqual(yes_rows(shuffled(only(2, ("aa",)), only(2, ("b",))), 4), ["aab", "aba", "baa"])

    def test_by_name(self):
        for make in OF_TWO:
            self.named(make, reader=EVEN, other=AB)
            self.assertEqual(make.__module__, "rowreaders.making")

    def test_too_many_stands(self):
        # Lengths that 13 and 15 divide, that 14 and 15 divide: 195 and 210 stands.
        self.assertEqual(len(both(cycle(13), cycle(15))), 195)
        self.fails(TooMany, lambda: both(cycle(14), cycle(15)), limit=200)
        for make in (either, one_alone):
            self.assertEqual(len(make(cycle(13), cycle(15))), 195)
            self.fails(TooMany, lambda: make(cycle(14), cycle(15)), limit=200)
            self.fails(TooMany, lambda: make(cycle(200, 8), cycle(199, 8)), limit=200)
        for make in (behind, shuffled):
            self.assertEqual(len(make(chain((99,)), chain((100,)))), 200)
            self.fails(TooMany, lambda: make(chain((100,)), chain((100,))), limit=200)
        # Many pairs of stands in between, but few stands at last.
        self.assertEqual(both(cycle(200), cycle(100)), cycle(200))
        self.assertEqual(both(cycle(199), chain((198,))), no_rows(1))
        self.assertEqual(behind(all_rows(1), chain((199,))), chain_from(199))

    def test_crowds_without_end(self):
        # An a so many places ahead of the end: all crowds are far too many, which shows soon.
        for places in (7, 8, 30, 198):
            arrows = ((1, None),) + tuple((at + 1, at + 1) for at in range(1, places)) + ((None, None),)
            ahead = Reader(2, arrows, (places,))
            if places == 7:
                self.assertEqual(len(behind(ALL, ahead)), 128)
            else:
                self.fails(TooMany, lambda: behind(ALL, ahead), limit=200)

    def test_wrong_values(self):
        for make in OF_TWO:
            self.fails_for_all(NotAReader, lambda given: make(given, "other"), NOT_READERS)
            self.fails_for_all(NotAReader, lambda given: make(EVEN, given), NOT_READERS)
            self.fails(UnlikeSigns, lambda: make(EVEN, all_rows(1)))
            self.fails(UnlikeSigns, lambda: make(cycle(199, 2), cycle(200, 3)))


def chain_from(length):
    """Rows of one sign with so many of it at least."""
    return Reader(1, tuple((min(at + 1, length),) for at in range(length + 1)), (length,))


class OfOneTest(MakingCase):
    def test_other_rows(self):
        for reader in SINGLES:
            self.assert_rows(other_rows(reader), reader.signs, lambda row: not is_yes(reader, row))
            self.assertEqual(other_rows(other_rows(reader)), least(reader))

    def test_again(self):
        for reader in SINGLES:
            self.assert_rows(again(reader), reader.signs, lambda row: is_again(reader, row))
            self.assertEqual(again(again(reader)), again(reader))

    def test_mirrored(self):
        for reader in SINGLES:
            self.assert_rows(mirrored(reader), reader.signs, lambda row: is_yes(reader, row[::-1]))
            self.assertEqual(mirrored(mirrored(reader)), least(reader))

    def test_fronts_tails_and_pieces(self):
        for reader in SINGLES:
            useful = useful_plainly(reader)
            self.assert_rows(fronts(reader), reader.signs, lambda row: goes(reader, 0, row) in useful)
            self.assert_rows(tails(reader), reader.signs,
                             lambda row: any(goes(reader, stand, row) in reader.ends for stand in useful))
            self.assert_rows(pieces(reader), reader.signs,
                             lambda row: any(goes(reader, stand, row) in useful for stand in useful))

    def test_strewn_pieces(self):
        for reader in SINGLES:
            signs = LETTERS[:reader.signs]
            self.assert_rows(strewn_pieces(reader), reader.signs, lambda row: crowd_says(reader, [0], row, signs))

    def test_of_few_rows_by_their_words(self):
        chance = random.Random(57)
        every = list(rows_up_to(2, 4))
        for _ in range(60):
            rows = tuple(chance.choice(every) for _ in range(chance.randint(0, 5)))
            reader = only(2, rows)
            found = {
                fronts: {row[:at] for row in rows for at in range(len(row) + 1)},
                tails: {row[at:] for row in rows for at in range(len(row) + 1)},
                pieces: {row[first:last] for row in rows for last in range(len(row) + 1) for first in range(last + 1)},
                strewn_pieces: {part[0] for row in rows for part in two_lots(row)},
                mirrored: {row[::-1] for row in rows},
                lambda reader: struck(reader, "a"): {row.replace("a", "") for row in rows},
                lambda reader: struck(reader, "ab"): {"" for row in rows},
                lambda reader: renamed(reader, "ba"): {row.translate({97: "b", 98: "a"}) for row in rows},
            }
            for make, wanted in found.items():
                self.assert_rows(make(reader), 2, lambda row: row in wanted)

    def test_none_the_empty_row_and_all(self):
        for signs in (1, 8):
            nothing, empty, every = no_rows(signs), only(signs, ("",)), all_rows(signs)
            useless = Reader(signs, ((1,) * signs, (0,) * signs), ())
            self.assertEqual([other_rows(nothing), other_rows(every)], [every, nothing])
            self.assertEqual([again(nothing), again(empty), again(every)], [empty, empty, every])
            for make in (mirrored, fronts, tails, pieces, strewn_pieces):
                self.assertEqual([make(nothing), make(empty), make(every)], [nothing, empty, every])
                self.assertEqual(make(useless), nothing)

    def test_by_name(self):
        for make in OF_ONE:
            self.named(make, reader=AB)
            self.assertEqual(make.__module__, "rowreaders.making")

    def test_too_many_stands(self):
        self.assertEqual(len(other_rows(chain((198,)))), 200)
        self.fails(TooMany, lambda: other_rows(chain((199,))), limit=200)
        # The sums of 14's and 15's, of 15's and 16's: from 182 on, from 210 on all numbers are some.
        self.assertEqual(len(again(chain((14, 15)))), 183)
        self.fails(TooMany, lambda: again(chain((15, 16))), limit=200)
        for places in (7, 8, 100):
            arrows = tuple((at + 1, at + 1) for at in range(places - 1)) + ((places, None), (places, places))
            reader = Reader(2, arrows, (places,))
            if places == 7:
                self.assertEqual(len(mirrored(reader)), 128)
            else:
                self.fails(TooMany, lambda: mirrored(reader), limit=200)

    def test_too_many_tails_and_pieces(self):
        for stands in (7, 8, 60):
            # One sign leads all stands round, the other one leads one stand to the next; c parts one from others.
            arrows = tuple(((at + 1) % stands, max(at, 1)) for at in range(stands))
            slow = Reader(2, arrows, (0,))
            slow_c = Reader(3, tuple(arrows[at] + (None if at else 0,) for at in range(stands)), (0,))
            if stands == 7:
                self.assertEqual([len(tails(slow)), len(pieces(slow_c))], [127, 127])
            else:
                self.fails(TooMany, lambda: tails(slow), limit=200)
                self.fails(TooMany, lambda: pieces(slow_c), limit=200)

    def test_too_many_strewn_pieces(self):
        for signs in (7, 8):
            # The first sign tells which sign does not come again; each lot of signs tells what else may come.
            arrows = (tuple(range(1, signs + 1)),)
            arrows += tuple(tuple(None if sign + 1 == at else at for sign in range(signs)) for at in range(1, signs + 1))
            reader = Reader(signs, arrows, tuple(range(signs + 1)))
            if signs == 7:
                self.assertLessEqual(len(strewn_pieces(reader)), 200)
                self.assertGreater(len(strewn_pieces(reader)), 127)
            else:
                self.fails(TooMany, lambda: strewn_pieces(reader), limit=200)

    def test_great_readers(self):
        great = some_reader(random.Random(58), 8, 200, 0)
        self.assertEqual(pieces(great), all_rows(8))
        self.assertEqual(strewn_pieces(great), all_rows(8))
        self.assertEqual(len(strewn_pieces(chain((199,)))), 200)
        self.assertEqual(mirrored(cycle(200)), cycle(200))
        self.assertEqual(again(cycle(200)), cycle(200))

    def test_wrong_values(self):
        for make in OF_ONE:
            self.fails_for_all(NotAReader, make, NOT_READERS)


class WithRowsTest(MakingCase):
    def test_rests(self):
        for reader in SINGLES:
            for row in rows_up_to(reader.signs, 2):
                self.assert_rows(rests_behind(reader, row), reader.signs, lambda rest: is_yes(reader, row + rest), 3)
                self.assert_rows(rests_ahead(reader, row), reader.signs, lambda rest: is_yes(reader, rest + row), 3)
            self.assertEqual(rests_behind(reader, ""), least(reader))
            self.assertEqual(rests_ahead(reader, ""), least(reader))

    def test_rests_at_the_edges(self):
        self.assertEqual(self.named(rests_behind, reader=AB, row="a"), Reader(2, ((None, 1), (0, None)), (1,)))
        self.assertEqual(self.named(rests_ahead, reader=AB, row="b"), Reader(2, ((1, None), (None, 0)), (1,)))
        self.assertEqual([rests_behind(AB, "b"), rests_ahead(AB, "a")], [NOTHING, NOTHING])
        self.assertEqual(rests_behind(chain((199,)), "a" * 199), only(1, ("",)))
        self.assertEqual(rests_behind(chain((199,)), "a" * 200), no_rows(1))
        self.assertEqual(rests_ahead(cycle(200), "a" * 200), cycle(200))
        self.assertEqual(rests_behind(NOTHING, "ab"), NOTHING)

    def test_wrong_rows(self):
        for make in (rests_behind, rests_ahead):
            self.fails_for_all(NotAReader, lambda given: make(given, 5), NOT_READERS)
            self.fails_for_all(InvalidRow, lambda given: make(EVEN, given), NOT_ROWS + ["c", "a" * 201])
            self.assertEqual(make.__module__, "rowreaders.making")


class WithSignsTest(MakingCase):
    def test_renamed(self):
        for reader in SINGLES:
            signs = LETTERS[:reader.signs]
            for order in itertools.permutations(signs):
                back = {there: here for here, there in zip(signs, order)}
                self.assert_rows(renamed(reader, "".join(order)), reader.signs,
                                 lambda row: is_yes(reader, "".join(back[sign] for sign in row)), 4)

    def test_renamed_at_the_edges(self):
        self.assertEqual(self.named(renamed, reader=AB, order="ba"), Reader(2, ((None, 1), (0, None)), (0,)))
        self.assertEqual(renamed(AB, "ab"), AB)
        self.assertEqual(yes_rows(renamed(only(3, ("abc",)), "bca"), 3), ["bca"])
        self.assertEqual(yes_rows(renamed(only(3, ("aab",)), "cab"), 3), ["cca"])
        self.assertEqual(renamed(only(8, ("abh",)), "hgfedcba"), only(8, ("hga",)))
        self.assertEqual(renamed(NOTHING, "ba"), NOTHING)

    def test_struck(self):
        for reader in SINGLES:
            signs = LETTERS[:reader.signs]
            for many in range(len(signs) + 1):
                for lot in itertools.combinations(signs, many):
                    self.assert_rows(struck(reader, "".join(lot)), reader.signs,
                                     lambda row: not set(row) & set(lot) and crowd_says(reader, [0], row, lot), 4)
            self.assertEqual(struck(reader, ""), least(reader))

    def test_struck_at_the_edges(self):
        self.assertEqual(self.named(struck, reader=AB, signs="a"), Reader(2, ((None, 0),), (0,)))
        self.assertEqual(struck(all_rows(3), "abc"), only(3, ("",)))
        self.assertEqual(struck(no_rows(3), "abc"), no_rows(3))
        self.assertEqual(struck(only(8, ("abcdefgh",)), "bdfh"), only(8, ("aceg",)))

    def test_too_many_stands(self):
        for places in (7, 8, 190):
            # A c stands ahead of the a from which so many signs are left, counted with it.
            arrows = ((0, 0, 1), (2, None, None)) + tuple((at + 1, at + 1, None) for at in range(2, places + 1))
            reader = Reader(3, arrows + ((None, None, None),), (places + 1,))
            if places == 7:
                self.assertEqual(len(struck(reader, "c")), 128)
            else:
                self.fails(TooMany, lambda: struck(reader, "c"), limit=200)

    def test_wrong_orders(self):
        wrong = [None, True, 0, ("a", "b"), ["a", "b"], b"ab", "", "a", "b", "aa", "bb", "abc", "abab", "aab", "AB", "ac",
                 "a b", "ab ", {"a", "b"}, EVEN]
        self.fails_for_all(InvalidSigns, lambda given: renamed(EVEN, given), wrong + STRANGE)
        self.fails_for_all(NotAReader, lambda given: renamed(given, 5), NOT_READERS)
        self.assertEqual(renamed.__module__, "rowreaders.making")

    def test_wrong_lots(self):
        wrong = [None, True, 0, (), ("a",), ["a"], b"a", "ba", "aa", "c", "abc", "abb", "A", " ", "a b", {"a"}, EVEN]
        wrong += [thing for thing in STRANGE if thing != ""]
        self.fails_for_all(InvalidSigns, lambda given: struck(EVEN, given), wrong)
        self.fails_for_all(NotAReader, lambda given: struck(given, 5), NOT_READERS)
        self.assertEqual(struck.__module__, "rowreaders.making")
