"""rowreaders.writers."""

import itertools
import random

from helpers import AB, EVEN, LETTERS, NOT_INTEGERS, NOT_READERS, NOT_ROWS, STRANGE, Case, chain, cycle, is_yes
from helpers import least_plainly, met_from, can_end, row_order, rows_up_to, some_reader, with_useless

from rowreaders import writers
from rowreaders.errors import InvalidOutputs, InvalidRow, InvalidSigns, NotAReader, NotAWriter, TooMany, UnlikeSigns
from rowreaders.likeness import same_rows
from rowreaders.listing import rows_of
from rowreaders.readers import Reader, all_rows, is_full, no_rows, only
from rowreaders.writers import Writer, early, first_unlike_row, image_of, origin_of, same_writers, then, two_alike
from rowreaders.writers import written

DOUBLE = Writer(all_rows(2), 2, "", (("aa", ""),), ("",))
LATE = Writer(Reader(2, ((1, 2), (1, 2), (1, 2)), (0, 1, 2)), 2, "", (("", ""), ("a", "a"), ("b", "b")), ("", "a", "b"))
COPY = Writer(all_rows(2), 2, "", (("a", "b"),), ("",))
SILENT = Writer(Reader(2, ((0, 1), (1, 0)), ()), 2, "ab", (("a", "b"), ("", "bb")), (None, None))
NOT_WRITERS = NOT_READERS + [EVEN, AB, (EVEN, 2, "", (("", ""), ("", "")), ("", None))]


def some_writer(chance, reader, signs, most=2):
    """A writer for a reader made by chance, with words of up to so many signs."""
    def word():
        return "".join(chance.choice(LETTERS[:signs]) for _ in range(chance.randint(0, most)))
    words = tuple(tuple(None if goal is None else word() for goal in goals) for goals in reader.arrows)
    lasts = tuple(word() if stand in reader.ends else None for stand in range(len(reader)))
    return Writer(reader, signs, word(), words, lasts)


def some_writers(seed, many, signs, written_signs):
    chance = random.Random(seed)
    return [some_writer(chance, some_reader(chance, signs, chance.randint(1, 4), chance.choice([0, 0.2, 0.4])),
                        written_signs) for _ in range(many)]


SMALL = some_writers(151, 40, 1, 1) + some_writers(152, 60, 2, 2) + some_writers(153, 15, 3, 2)
SMALL += [DOUBLE, LATE, COPY, SILENT]


def most_of(writer):
    return {1: 9, 2: 6, 3: 4}[writer.reader.signs]


def written_from(writer, stand, row):
    """What is written from a stand on, the first word left aside, None if nothing."""
    text = ""
    for sign in row:
        at = LETTERS.index(sign)
        goal = writer.reader.arrows[stand][at]
        if goal is None:
            return None
        text += writer.words[stand][at]
        stand = goal
    return None if writer.lasts[stand] is None else text + writer.lasts[stand]


def written_plainly(writer, row):
    text = written_from(writer, 0, row)
    return None if text is None else writer.start + text


def doubled(writer):
    """An alike writer with each stand twice, the words of one of both having been written a sign earlier."""
    reader, many = writer.reader, len(writer.reader)
    arrows = tuple(tuple(None if goal is None else goal + many * (1 - turn) for goal in goals)
                   for turn in (0, 1) for goals in reader.arrows)
    ends = reader.ends + tuple(end + many for end in reader.ends)
    return Writer(Reader(reader.signs, arrows, ends), writer.signs, writer.start, writer.words * 2, writer.lasts * 2)


def delayed(writer):
    """An alike writer that writes its first word with the first sign, or at last, as far as words let it."""
    reader = writer.reader
    words = tuple(None if word is None else writer.start + word for word in writer.words[0])
    last = None if writer.lasts[0] is None else writer.start + writer.lasts[0]
    if any(word is not None and len(word) > 4 for word in words + (last,)):
        return writer
    arrows = tuple(tuple(None if goal is None else goal + 1 for goal in goals)
                   for goals in reader.arrows[:1] + reader.arrows)
    ends = ((0,) if 0 in reader.ends else ()) + tuple(end + 1 for end in reader.ends)
    return Writer(Reader(reader.signs, arrows, ends), writer.signs, "", (words,) + writer.words,
                  (last,) + writer.lasts)


class WriterTest(Case):
    def test_what_is_made_is_told_again(self):
        parts = {"reader": AB, "signs": 3, "start": "cab", "words": (("", None), (None, "abca")),
                 "lasts": ("cc", None)}
        made = self.named(Writer, **parts)
        self.assertEqual((made.reader, made.signs, made.start, made.words, made.lasts), tuple(parts.values()))
        self.assertTrue(made)
        for name in parts:
            self.assertIsInstance(vars(Writer)[name], property)
        self.assertIn("__eq__", vars(Writer))
        for name in ("Writer", "written", "early", "same_writers", "first_unlike_row", "then", "image_of",
                     "origin_of", "two_alike"):
            self.assertEqual(getattr(writers, name).__module__, "rowreaders.writers")

    def test_equality(self):
        parts = [AB, 3, "c", (("", None), (None, "a")), ("b", None)]
        made = Writer(*parts)
        self.assertTrue(made == Writer(*parts))
        self.assertFalse(made != Writer(*parts))
        others = [[Reader(2, AB.arrows, (0, 1)), 3, "c", parts[3], ("b", "")], [AB, 4] + parts[2:],
                  [AB, 3, "", *parts[3:]], [*parts[:3], (("a", None), (None, "a")), parts[4]], [*parts[:4], ("", None)]]
        for other in others:
            self.assertTrue(made != Writer(*other))
            self.assertFalse(made == Writer(*other))
        for other in (tuple(parts), None, AB, "writer"):
            self.assertTrue(made != other)
        self.assertTrue(LATE != COPY)

    def test_wrong_parts(self):
        words = (("", None), (None, "ab"))
        self.check_wrong(0, NOT_READERS + [DOUBLE], lambda given: (given, 0, 5, 5, 5), NotAReader)
        self.check_wrong(1, NOT_INTEGERS + [0, 9, -1, 10 ** 59], lambda given: (AB, given, 5, 5, 5), InvalidSigns)
        starts = [thing for thing in STRANGE if thing != ""] + [0, "c", "aaaaa", ("a",), "ai", "A", words]
        self.check_wrong(2, starts, lambda given: (AB, 2, given, 5, 5), InvalidOutputs)
        wrong = STRANGE + [0, "a", words[:1], words + words[:1], list(words), (words[0], list(words[1])),
                           (words[0], (None,)), (words[0], (None, "a", None)), (words[0], (None, None)),
                           (words[0], ("", "ab")), (("a", "a"), words[1]), (words[0], (None, "c")),
                           (words[0], (None, "aaaaa")), (words[0], (None, 0)), (words[0], (False, "a")),
                           (words[0], (None, ("a",))), (words[0], (None, ["a"])), (words[0], (None, b"a")),
                           (words[0], None), (None, words[1])]
        self.check_wrong(3, wrong, lambda given: (AB, 2, "a", given, 5), InvalidOutputs)
        wrong = STRANGE + [0, "a", ("a",), ("a", None, None), ["a", None], (None, None), ("a", "b"), (None, "a"),
                           ("c", None), ("aaaaa", None), (0, None), (b"", None), (("a",), None), ("a", False)]
        self.check_wrong(4, wrong, lambda given: (AB, 2, "a", words, given), InvalidOutputs)

    def check_wrong(self, at, wrong, parts, error):
        self.fails_for_all(error, lambda given: Writer(*parts(given)), wrong)

    def test_as_great_as_can_be(self):
        reader = cycle(200, 8)
        made = Writer(reader, 8, "hhhh", (("abcd",) * 8,) * 200, ("efgh",) + (None,) * 199)
        self.assertEqual(written(made, "h" * 200), "hhhh" + "abcd" * 200 + "efgh")
        self.assertIsNone(written(made, "h" * 199))


class WrittenTest(Case):
    def test_against_walking(self):
        for writer in SMALL:
            for row in rows_up_to(writer.reader.signs, most_of(writer)):
                found = written(writer, row)
                self.assertEqual(found, written_plainly(writer, row))
                self.assertIs(found is not None, is_yes(writer.reader, row))

    def test_edges(self):
        self.assertEqual(self.named(written, writer=DOUBLE, row="aba"), "aaaa")
        self.assertEqual(written(DOUBLE, ""), "")
        self.assertIsNone(written(SILENT, ""))
        self.assertEqual(written(Writer(only(1, ("",)), 1, "a", ((None,),), ("aa",)), ""), "aaa")

    def test_wrong_values(self):
        self.fails_for_all(NotAWriter, lambda given: written(given, 5), NOT_WRITERS)
        self.fails_for_all(InvalidRow, lambda given: written(DOUBLE, given), NOT_ROWS + ["c", "a" * 201])
        # The row is one of the reader's signs, not of those that are written.
        wide = Writer(all_rows(1), 8, "", (("h",),), ("",))
        self.fails(InvalidRow, lambda: written(wide, "b"), given="b")


class EarlyTest(Case):
    def check_form(self, made, signs):
        """That a writer has the form of early ones, as far as short rows tell it."""
        self.assertIs(type(made), Writer)
        reader = made.reader
        if not reader.ends:
            self.assertEqual((reader, made.start, made.words, made.lasts),
                             (no_rows(signs), "", ((None,) * signs,), (None,)))
            return
        for words, goals in zip(made.words, reader.arrows):
            self.assertEqual([word is None for word in words], [goal is None for goal in goals])
        self.assertEqual([word is not None for word in made.lasts], [at in reader.ends for at in range(len(reader))])
        self.assertEqual(sorted(met_from(reader, 0)), list(range(len(reader))))
        every = list(rows_up_to(signs, {1: 12, 2: 7, 3: 5}[signs]))
        told = []
        for stand in range(len(reader)):
            self.assertTrue(can_end(reader, stand))
            rests = [written_from(made, stand, row) for row in every]
            self.assertFalse(rests in told)
            told.append(rests)
            fronts = {rest[:1] for rest in rests if rest is not None}
            self.assertTrue("" in fronts or len(fronts) > 1)
        self.check_first_rows(reader, every)

    def check_first_rows(self, reader, every):
        firsts = {}
        for row in every:
            stand = 0
            for sign in row:
                stand = None if stand is None else reader.arrows[stand][LETTERS.index(sign)]
            firsts.setdefault(stand, row)
        firsts.pop(None, None)
        self.assertEqual([firsts[stand] for stand in range(len(reader))], sorted(firsts.values(), key=row_order))

    def test_plainly(self):
        shorter = 0
        for writer in SMALL:
            made = early(writer)
            self.check_form(made, writer.reader.signs)
            self.assertEqual(made.signs, writer.signs)
            for row in rows_up_to(writer.reader.signs, most_of(writer)):
                self.assertEqual(written_plainly(made, row), written_plainly(writer, row))
            self.assertEqual(early(made), made)
            shorter += len(made.reader) < len(writer.reader)
        self.assertGreater(shorter, 10)

    def test_alike_ones_have_equal_early_ones(self):
        for writer in SMALL:
            for other in (doubled(writer), delayed(writer), doubled(delayed(writer))):
                self.assertEqual(early(other), early(writer))
                self.assertIs(same_writers(other, writer), True)

    def test_edges(self):
        self.assertEqual(self.named(early, writer=LATE), COPY)
        nothing = Writer(no_rows(2), 2, "", ((None, None),), (None,))
        self.assertEqual(early(SILENT), nothing)
        self.assertEqual(early(Writer(no_rows(2), 2, "abab", ((None, None),), (None,))), nothing)
        self.assertEqual(early(Writer(only(1, ("",)), 3, "ab", ((None,),), ("cc",))),
                         Writer(only(1, ("",)), 3, "abcc", ((None,),), ("",)))
        # The number of signs that are written stays, also where not all of them are.
        self.assertEqual(early(Writer(all_rows(1), 8, "", (("a",),), ("",))).signs, 8)
        # What all that can be written begins with is written ahead, and no more than this: babb and baba.
        one = Writer(Reader(2, ((1, 2), (None, None), (None, None)), (1, 2)), 2, "b",
                     (("ab", "a"), (None, None), (None, None)), (None, "b", "ba"))
        self.assertEqual(early(one), Writer(Reader(2, ((1, 1), (None, None)), (1,)), 2, "bab",
                                            (("b", "a"), (None, None)), (None, "")))

    def test_words_may_come_out_long(self):
        reader = chain((199,), 2)
        made = Writer(reader, 2, "ab", (("abba",) * 2,) * 199 + ((None, None),), (None,) * 199 + ("bb",))
        found = early(made)
        self.assertEqual(found.start, "ab" + "abba" * 199 + "bb")
        self.assertEqual(found.words, (("", ""),) * 199 + ((None, None),))
        self.assertEqual(early(found), found)
        around = Writer(cycle(200), 8, "", (("abcd",),) * 200, ("h",) + (None,) * 199)
        found = early(around)
        # For the empty row h is written, for all others abcd comes first.
        self.assertEqual([found.start, found.lasts[0]], ["", "h"])
        self.assertEqual(found.words[0], ("abcd" * 200,))
        self.assertEqual(written_plainly(found, "a" * 400), "abcd" * 400 + "h")
        self.assertGreater(max(len(word) for words in found.words for word in words), 700)
        self.assertEqual(rows_of(found.reader, 200), ("a" * 200,))
        # Long words of what was made may be passed on to all functions.
        self.assertEqual(written(found, "a" * 200), "abcd" * 200 + "h")
        self.assertIs(same_writers(found, around), True)
        self.assertIsNone(two_alike(found))
        self.assertEqual(early(then(found, Writer(all_rows(8), 1, "", (("a",) + ("",) * 7,), ("",)))).signs, 1)
        self.fails(TooMany, lambda: image_of(found), limit=200)
        self.assertEqual(origin_of(found, all_rows(8)), cycle(200))

    def test_great_writers(self):
        chance = random.Random(154)
        for signs, nowhere in ((8, 0), (2, 0.3)):
            writer = some_writer(chance, some_reader(chance, signs, 200, nowhere, 0.1), 8, 4)
            made = early(writer)
            self.assertIs(same_writers(made, writer), True)
            self.assertEqual(early(made), made)
            self.assertLessEqual(len(made.reader), 200)

    def test_wrong_values(self):
        for call in (early, image_of, two_alike):
            self.fails_for_all(NotAWriter, call, NOT_WRITERS)
        self.fails_for_all(NotAWriter, lambda given: origin_of(given, 5), NOT_WRITERS)
        self.fails_for_all(NotAReader, lambda given: origin_of(DOUBLE, given), NOT_READERS + [DOUBLE])
        for call in (same_writers, first_unlike_row, then):
            self.fails_for_all(NotAWriter, lambda given: call(given, 5), NOT_WRITERS)
            self.fails_for_all(NotAWriter, lambda given: call(DOUBLE, given), NOT_WRITERS)


class AlikeTest(Case):
    def test_plainly(self):
        kinds = []
        for signs, most in ((1, 9), (2, 6)):
            some = [writer for writer in SMALL if writer.reader.signs == signs]
            some = some[:25] + [early(writer) for writer in some[:3]] + some[-4:]
            for one, two in itertools.product(some, some):
                apart = [row for row in rows_up_to(signs, most)
                         if written_plainly(one, row) != written_plainly(two, row)]
                found = first_unlike_row(one, two)
                self.assertIs(same_writers(one, two), found is None)
                kinds.append(found is None)
                if apart:
                    self.assertEqual(found, apart[0])
                elif found is not None:
                    self.assertGreater(len(found), most)
        self.assertGreater(kinds.count(True), 60)

    def test_edges(self):
        self.assertEqual(self.named(first_unlike_row, writer=LATE, other=DOUBLE), "a")
        self.assertIs(self.named(same_writers, writer=LATE, other=COPY), True)
        # Nothing is not the empty row.
        empty = Writer(all_rows(2), 2, "", (("", ""),), ("",))
        self.assertEqual(first_unlike_row(SILENT, empty), "")
        self.assertEqual(first_unlike_row(empty, SILENT), "")
        self.assertIs(same_writers(SILENT, Writer(no_rows(2), 7, "g", ((None, None),), (None,))), True)
        # Only the one writes for rows that end with b.
        ends_a = Writer(Reader(2, ((1, 0), (1, 0)), (1,)), 2, "", (("", ""), ("", "")), (None, ""))
        self.assertEqual(first_unlike_row(Writer(all_rows(2), 2, "", (("", ""),), ("",)), ends_a), "")
        self.assertEqual(first_unlike_row(ends_a, Writer(Reader(2, ((1, None), (1, None)), (1,)), 2, "",
                                                         (("", None), ("", None)), (None, ""))), "ba")
        # Writers with unlike numbers of signs that are written may be alike.
        wide = Writer(all_rows(2), 8, "", (("a", "b"),), ("",))
        self.assertIs(same_writers(wide, COPY), True)
        self.assertTrue(early(wide) != early(COPY))

    def test_long_first_rows(self):
        one = Writer(Reader(1, cycle(199).arrows, tuple(range(199))), 1, "", (("a",),) * 199, ("",) * 199)
        two = Writer(Reader(1, cycle(200).arrows, tuple(range(200))), 1, "", (("a",),) * 199 + (("aa",),), ("",) * 200)
        self.assertEqual(first_unlike_row(one, two), "a" * 200)
        at_198 = Writer(Reader(1, cycle(199).arrows, (198,)), 1, "", (("a",),) * 199, (None,) * 198 + ("",))
        at_199 = Writer(Reader(1, cycle(200).arrows, (199,)), 1, "", (("a",),) * 200, (None,) * 199 + ("",))
        self.assertEqual(first_unlike_row(at_198, at_199), "a" * 198)
        # Alike for rows of one length, then for those of no other up to 379 signs.
        late = Writer(Reader(1, cycle(20).arrows, tuple(range(20))), 1, "", (("a",),) * 20, ("",) * 20)
        others = Writer(Reader(1, cycle(19).arrows, tuple(range(18)) + (18,)), 1, "", (("a",),) * 18 + (("aa",),),
                        ("",) * 19)
        self.assertEqual(first_unlike_row(late, others), "a" * 19)

    def test_wrong_values(self):
        one = Writer(all_rows(1), 2, "", (("a",),), ("",))
        for call in (same_writers, first_unlike_row):
            self.fails(UnlikeSigns, lambda: call(one, DOUBLE))
            self.fails(UnlikeSigns, lambda: call(DOUBLE, one))


class ThenTest(Case):
    def test_plainly(self):
        some = [writer for writer in SMALL if writer.signs == 2 and writer.reader.signs < 3]
        chance = random.Random(155)
        for one in SMALL:
            seconds = [writer for writer in some if writer.reader.signs == one.signs]
            for two in chance.sample(seconds, 4) if len(seconds) > 3 else self.thirds(one.signs):
                made = then(one, two)
                self.assertEqual(made.signs, two.signs)
                self.assertEqual(made.reader.signs, one.reader.signs)
                for row in rows_up_to(one.reader.signs, most_of(one)):
                    text = written_plainly(one, row)
                    self.assertEqual(written_plainly(made, row), None if text is None else written_plainly(two, text))
                self.assertEqual(made, early(made))
                EarlyTest.check_form(self, made, one.reader.signs)

    check_first_rows = EarlyTest.check_first_rows

    def thirds(self, signs):
        return some_writers(156 + signs, 3, signs, 2)

    def test_edges(self):
        self.assertEqual(written(self.named(then, writer=DOUBLE, other=DOUBLE), "ab"), "aaaa")
        self.assertEqual(then(COPY, COPY), COPY)
        self.assertEqual(then(LATE, LATE), COPY)
        self.assertEqual([then(SILENT, COPY), then(COPY, SILENT)], [early(SILENT), early(SILENT)])
        # What is written first, or at last, is read by the other one, too.
        self.assertEqual(written(then(Writer(only(1, ("",)), 2, "ab", ((None,),), ("a",)), DOUBLE), ""), "aaaa")
        nowhere = Writer(only(2, ("ab",)), 1, "", (("", None), (None, "aa"), (None, None)), (None, None, "a"))
        self.assertEqual(written(then(COPY, nowhere), "ab"), "aaa")
        self.assertEqual(then(Writer(all_rows(1), 2, "b", (("",),), ("",)), nowhere),
                         early(Writer(no_rows(1), 1, "", ((None,),), (None,))))
        # Only of the writer's signs the number may not be another one.
        self.fails(UnlikeSigns, lambda: then(Writer(all_rows(2), 3, "", (("a", "b"),), ("",)), COPY))
        self.fails(UnlikeSigns, lambda: then(COPY, Writer(all_rows(1), 2, "", (("a",),), ("",))))
        narrow = Writer(all_rows(1), 2, "", (("ab",),), ("",))
        self.assertEqual(written(then(narrow, COPY), "aa"), "abab")

    def test_too_many(self):
        def around(many):
            return Writer(cycle(many), 1, "", (("a",),) * many, ("",) + (None,) * (many - 1))

        # One writes for each a one a, and goes through its rows in so many steps.
        self.assertEqual(len(then(around(8), around(25)).reader), 200)
        self.fails(TooMany, lambda: then(around(3), around(67)), limit=200)
        self.fails(TooMany, lambda: then(around(199), around(200)), limit=200)
        # Not the rows for which something is written, but what is written, needs so many stands.
        first = Writer(Reader(1, cycle(15).arrows, tuple(range(15))), 2, "", (("a",),) * 14 + (("b",),), ("",) * 15)
        second = Writer(Reader(2, ((1, 1), (0, 0)), (0, 1)), 2, "", (("a", "b"), ("b", "a")), ("", ""))
        self.assertEqual(len(then(first, second).reader), 30)
        turning = Writer(Reader(2, cycle(13, 2).arrows, tuple(range(13))), 8, "",
                         (("a", "b"),) * 12 + (("c", "d"),), ("",) * 13)
        self.assertEqual(len(then(first, turning).reader), 195)
        sixteen = Writer(Reader(1, cycle(16).arrows, tuple(range(16))), 2, "", (("a",),) * 15 + (("b",),), ("",) * 16)
        self.fails(TooMany, lambda: then(sixteen, turning), limit=200)
        self.fails(UnlikeSigns, lambda: then(turning, turning))
        # As many pairs of stands, but few of them for what is written.
        even = Writer(Reader(1, cycle(200).arrows, tuple(range(200))), 2, "", (("a",),) * 200, ("",) * 200)
        odd = Writer(Reader(2, cycle(199, 2).arrows, tuple(range(199))), 2, "", (("a", "b"),) * 199, ("",) * 199)
        self.assertEqual(len(then(even, odd).reader), 1)


class ImageTest(Case):
    def test_against_all_short_rows(self):
        for writer in SMALL:
            made = image_of(writer)
            self.assertEqual(made.signs, writer.signs)
            self.assertEqual((made.arrows, made.ends), least_plainly(made))
            texts = {written_plainly(writer, row) for row in rows_up_to(writer.reader.signs, most_of(writer))}
            for text in texts - {None}:
                self.assertTrue(is_yes(made, text))
            if all(word != "" for words in writer.words for word in words):
                for row in rows_up_to(writer.signs, min(3, most_of(writer))):
                    self.assertIs(is_yes(made, row), row in texts)

    def test_the_same_for_early_ones(self):
        for writer in SMALL:
            self.assertEqual(image_of(early(writer)), image_of(writer))

    def test_against_origin(self):
        """A row is written exactly if it has an origin."""
        for writer in SMALL:
            made = image_of(writer)
            for row in rows_up_to(writer.signs, 3):
                self.assertIs(is_yes(made, row), origin_of(writer, only(writer.signs, (row,))).ends != ())

    def test_edges(self):
        self.assertEqual(rows_of(self.named(image_of, writer=DOUBLE), 2), ("aa",))
        self.assertEqual(image_of(SILENT), no_rows(2))
        self.assertEqual(image_of(Writer(only(3, ("",)), 8, "hgfe", ((None,) * 3,), ("dcba",))), only(8, ("hgfedcba",)))
        self.assertEqual(image_of(Writer(all_rows(2), 2, "", (("", ""),), ("",))), only(2, ("",)))
        self.assertEqual(image_of(COPY), all_rows(2))

    def test_too_many(self):
        def around(many, word):
            return Writer(cycle(many), 1, "", ((word,),) * many, ("",) + (None,) * (many - 1))
        self.assertEqual(len(image_of(around(50, "aaaa"))), 200)
        self.fails(TooMany, lambda: image_of(around(51, "aaaa")), limit=200)
        self.assertEqual(len(image_of(around(200, "a"))), 200)


class OriginTest(Case):
    def test_against_all_short_rows(self):
        chance = random.Random(158)
        for writer in SMALL:
            for reader in [some_reader(chance, writer.signs, chance.randint(1, 3)) for _ in range(3)]:
                made = origin_of(writer, reader)
                self.assertEqual(made.signs, writer.reader.signs)
                self.assertEqual((made.arrows, made.ends), least_plainly(made))
                for row in rows_up_to(writer.reader.signs, most_of(writer)):
                    text = written_plainly(writer, row)
                    self.assertIs(is_yes(made, row), text is not None and is_yes(reader, text))

    def test_edges(self):
        self.assertEqual(rows_of(self.named(origin_of, writer=DOUBLE, reader=only(2, ("aa",))), 2), ("ab", "ba"))
        self.assertEqual([origin_of(SILENT, all_rows(2)), origin_of(COPY, no_rows(2)), origin_of(COPY, EVEN)],
                         [no_rows(2), no_rows(2), EVEN])
        self.assertIs(same_rows(origin_of(LATE, AB), AB), True)
        self.fails(UnlikeSigns, lambda: origin_of(DOUBLE, all_rows(1)))
        self.fails(UnlikeSigns, lambda: origin_of(Writer(all_rows(2), 3, "", (("a", "b"),), ("",)), all_rows(2)))

    def test_too_many(self):
        around = Writer(cycle(15), 1, "", (("a",),) * 15, ("",) + (None,) * 14)
        self.assertEqual(len(origin_of(around, cycle(13))), 195)
        self.fails(TooMany, lambda: origin_of(around, cycle(14)), limit=200)
        self.fails(TooMany, lambda: origin_of(around, cycle(200)), limit=200)
        self.assertIs(is_full(origin_of(COPY, cycle(200, 2))), True)


class TwoAlikeTest(Case):
    def test_plainly(self):
        kinds = []
        for writer in SMALL + some_writers(157, 60, 2, 8):
            found = two_alike(writer)
            kinds.append(found is None)
            rows = [row for row in rows_up_to(writer.reader.signs, most_of(writer)) if is_yes(writer.reader, row)]
            if found is None:
                texts = {written_plainly(writer, row) for row in rows}
                self.assertEqual(len(texts), len(rows))
            else:
                self.check_pair(writer, found)
        self.assertGreater(kinds.count(True), 20)
        self.assertGreater(kinds.count(False), 20)

    def check_pair(self, writer, found):
        self.assertIsInstance(found, tuple)
        one, two = found
        self.assertLess(row_order(one), row_order(two))
        self.assertIsNotNone(written_plainly(writer, one))
        self.assertEqual(written_plainly(writer, one), written_plainly(writer, two))

    def test_edges(self):
        self.assertIsNone(self.named(two_alike, writer=LATE))
        self.assertIsNone(two_alike(SILENT))
        self.assertIsNone(two_alike(Writer(only(1, ("",)), 1, "", ((None,),), ("",))))
        self.check_pair(DOUBLE, two_alike(DOUBLE))
        # Only the last words, or only what is written on the way, make rows unlike.
        self.assertIsNone(two_alike(Writer(only(1, ("", "a")), 2, "", (("",), (None,)), ("a", "b"))))
        self.assertIsNone(two_alike(Writer(only(1, ("", "a")), 2, "", (("a",), (None,)), ("", ""))))
        made_good = Writer(only(1, ("", "a")), 2, "b", (("a",), (None,)), ("a", ""))
        self.assertEqual(two_alike(made_good), ("", "a"))
        # The shorter row comes first, whichever of both writes more at the beginning.
        for words in (("a", "aa"), ("aa", "a"), ("", "aaa"), ("aaa", "")):
            arrows = ((1, 2), (3, None), (None, None), (None, None))
            rest = "aaa"[len(words[0]):], "aaa"[len(words[1]):]
            pair = Writer(Reader(2, arrows, (2, 3)), 1, "", (words, (rest[0], None), (None, None), (None, None)),
                          (None, None, rest[1], ""))
            self.assertEqual(two_alike(pair), ("b", "aa"))

    def test_useless_stands(self):
        for writer in SMALL:
            reader = with_useless(writer.reader)
            chance = random.Random(159)
            more = some_writer(chance, reader, writer.signs)
            found = two_alike(more)
            if found is not None:
                self.check_pair(more, found)
            self.assertEqual(early(more), early(early(more)))
