"""rowreaders.books."""

import random

from helpers import AB, EVEN, LETTERS, NOT_INTEGERS, NOT_READERS, NOT_ROWS, STRANGE, Case, chain, cycle, every_reader
from helpers import goes, is_yes, least_plainly, row_order, rows_up_to, some_reader, some_readers, with_useless
from helpers import yes_rows

from rowreaders import books
from rowreaders.books import agree, clash, few_rows, first_difference, image, is_read_back, origin, version
from rowreaders.errors import InvalidBook, InvalidRow, InvalidSigns, NotAReader, TooMany
from rowreaders.likeness import least
from rowreaders.listing import longest
from rowreaders.readers import Reader, all_rows, first_yes, no_rows, only

SMALL = list(every_reader(1, 2)) + some_readers(131, 60, 2, 4) + some_readers(132, 30, 3, 4)
SMALL += [EVEN, AB, no_rows(2), all_rows(2), only(2, ("ab", "ba", "a", ""))]
SMALL += [with_useless(reader) for reader in SMALL[36:60]]
WORDS = ["", "a", "b", "aa", "ab", "ba", "bb", "aab", "abb", "bab", "aaaa", "abab", "bbbb", "c", "ac"]


def some_books(chance, signs, many, words=tuple(WORDS)):
    return [tuple(chance.choice(words) for _ in range(signs)) for _ in range(many)]


def version_plainly(book, row):
    return "".join(book[LETTERS.index(sign)] for sign in row)


def not_books(signs, wrong_sign):
    """Things that are no book for so many signs."""
    right = ("a",) * signs
    return [thing for thing in STRANGE if thing != ("",) or signs != 1] + [
        0, "a" * signs, list(right), right[1:], right + ("a",), right[1:] + ("aaaaa",), right[1:] + (wrong_sign,),
        right[1:] + ("a" + wrong_sign,), right[1:] + ("A",), right[1:] + (None,), right[1:] + (b"a",),
        right[1:] + (("a",),), right[1:] + (["a"],), right[1:] + (0,), (right,) * signs, {sign: "a" for sign in right}]


class VersionTest(Case):
    def test_plainly(self):
        chance = random.Random(133)
        for reader in SMALL[:40]:
            for book in some_books(chance, reader.signs, 4, WORDS + ["hhhh", "gfed"]):
                for row in rows_up_to(reader.signs, 4):
                    self.assertEqual(version(reader, book, row), version_plainly(book, row))

    def test_edges(self):
        self.assertEqual(self.named(version, reader=AB, book=("ab", "c"), row="abab"), "abcabc")
        # No row need be a yes row, and words may have signs that the reader has not.
        self.assertEqual(version(no_rows(2), ("hgfe", ""), "abba"), "hgfehgfe")
        self.assertEqual(version(AB, ("", ""), "b" * 200), "")
        self.assertEqual(version(AB, ("abcd", "efgh"), "a" * 200), "abcd" * 200)

    def test_wrong_values(self):
        self.fails_for_all(NotAReader, lambda given: version(given, 5, 5), NOT_READERS)
        self.fails_for_all(InvalidBook, lambda given: version(AB, given, 5), not_books(2, "i"))
        self.fails_for_all(InvalidRow, lambda given: version(AB, ("a", "b"), given), NOT_ROWS + ["c"])
        for name in ("version", "image", "origin", "agree", "first_difference", "few_rows", "is_read_back", "clash"):
            self.assertEqual(getattr(books, name).__module__, "rowreaders.books")


class ImageTest(Case):
    def test_against_all_short_rows(self):
        chance = random.Random(134)
        for reader in SMALL:
            most = {1: 10, 2: 7, 3: 5}[reader.signs]
            rows = yes_rows(reader, most)
            for book in some_books(chance, reader.signs, 4):
                made = image(reader, 3, book)
                self.assertEqual(made.signs, 3)
                self.assertEqual((made.arrows, made.ends), least_plainly(made))
                for row in rows:
                    self.assertTrue(is_yes(made, version_plainly(book, row)))
                versions = {version_plainly(book, row) for row in rows}
                # If all words have signs, a version is not shorter than its row.
                if "" not in book:
                    for row in rows_up_to(3, min(most, 5)):
                        self.assertIs(is_yes(made, row), row in versions)

    def test_empty_words(self):
        chance = random.Random(135)
        for reader in SMALL:
            if reader.signs > 1:
                book = ("",) + some_books(chance, reader.signs - 1, 1, ("a", "b", "ba"))[0]
                made = image(reader, 2, book)
                # Between two signs that write something each stand need be met but once.
                found = {version_plainly(book, row) for row in self.rows_with(reader, book, 3)}
                for row in rows_up_to(2, 3):
                    self.assertIs(is_yes(made, row), row in found)

    def rows_with(self, reader, book, most):
        """The yes rows whose version is not too long, and which have no more empty words than they need."""
        fronts = [("", 0)]
        for row, stand in fronts:
            if stand in reader.ends:
                yield row
            for at, goal in enumerate(reader.arrows[stand]):
                longer = row + LETTERS[at]
                useless = longer.endswith("a" * (len(reader) + 1))
                if goal is not None and not useless and len(version_plainly(book, longer)) <= most:
                    fronts.append((longer, goal))

    def test_edges(self):
        self.assertEqual(self.named(image, reader=EVEN, size=2, book=("b", "a")).arrows, ((0, 1), (1, 0)))
        self.assertEqual(image(all_rows(1), 1, ("",)), only(1, ("",)))
        self.assertEqual(image(no_rows(2), 8, ("h", "abcd")), no_rows(8))
        self.assertEqual(image(only(1, ("a",)), 8, ("abcd",)), only(8, ("abcd",)))
        self.assertEqual(image(all_rows(8), 1, ("a",) * 8), all_rows(1))
        self.assertEqual(image(AB, 8, ("efgh", "")).arrows[0], (None,) * 4 + (1,) + (None,) * 3)
        self.assertEqual(image(only(2, ("ab", "b")), 1, ("aaaa", "")), only(1, ("", "aaaa")))

    def test_too_many(self):
        self.assertEqual(len(image(cycle(50), 1, ("aaaa",))), 200)
        self.assertEqual(len(image(cycle(200), 1, ("a",))), 200)
        self.fails(TooMany, lambda: image(cycle(51), 1, ("aaaa",)), limit=200)
        self.fails(TooMany, lambda: image(cycle(200), 2, ("ab",)), limit=200)
        self.assertEqual(len(image(chain((49,)), 1, ("aaaa",))), 197)
        self.fails(TooMany, lambda: image(chain((50,)), 1, ("aaaa",)), limit=200)
        # Long rows alone tell the stands apart.
        self.fails(TooMany, lambda: image(chain((199,), 2), 2, ("aaaa", "abab")), limit=200)
        self.fails(TooMany, lambda: image(cycle(200), 1, ("aaaa",)), limit=200)
        self.assertEqual(len(image(chain((199,), 2), 1, ("a", "a"))), 200)
        # Which of the last ten signs was a b: to be known of all of them at once.
        guess = Reader(3, ((0, 0, 1),) + tuple((at + 1, at + 1, None) for at in range(1, 11)) + ((None,) * 3,), (11,))
        self.fails(TooMany, lambda: image(guess, 2, ("a", "b", "b")), limit=200)

    def test_wrong_values(self):
        wrong = NOT_INTEGERS + [0, 9, -1, 10 ** 59]
        for call in (image, origin):
            self.fails_for_all(NotAReader, lambda given: call(given, 0, 5), NOT_READERS)
            self.fails_for_all(InvalidSigns, lambda given: call(AB, given, 5), wrong)
        self.fails_for_all(InvalidBook, lambda given: image(AB, 8, given), not_books(2, "i"))
        self.fails_for_all(InvalidBook, lambda given: image(AB, 2, given), not_books(2, "c"))
        self.fails_for_all(InvalidBook, lambda given: image(AB, 1, given), not_books(2, "b"))
        image(AB, 2, ("b", "b"))
        # A book that is too long for the image is told ahead of too many stands.
        self.fails(InvalidBook, lambda: image(cycle(200), 1, given_book), given=given_book)


given_book = ("aaaaa",)


class OriginTest(Case):
    def test_against_all_short_rows(self):
        chance = random.Random(136)
        for reader in SMALL:
            words = [word for word in WORDS if set(word) <= set(LETTERS[:reader.signs])]
            for size in (1, 2, 3):
                book = some_books(chance, size, 1, words)[0]
                made = origin(reader, size, book)
                self.assertEqual(made.signs, size)
                self.assertEqual((made.arrows, made.ends), least_plainly(made))
                for row in rows_up_to(size, 5):
                    self.assertIs(is_yes(made, row), is_yes(reader, version_plainly(book, row)))

    def test_edges(self):
        self.assertEqual(self.named(origin, reader=EVEN, size=2, book=("aa", "b")), all_rows(2))
        self.assertEqual(origin(AB, 8, ("abab",) * 8), all_rows(8))
        self.assertEqual(origin(no_rows(1), 3, ("", "", "")), no_rows(3))
        self.assertEqual(origin(only(1, ("",)), 1, ("",)), all_rows(1))
        self.assertEqual(len(origin(cycle(200), 8, ("a",) * 8)), 200)
        self.assertEqual(len(origin(cycle(200), 1, ("aaaa",))), 50)

    def test_wrong_values(self):
        self.fails_for_all(InvalidBook, lambda given: origin(AB, 3, given), not_books(3, "c"))
        self.fails_for_all(InvalidBook, lambda given: origin(all_rows(8), 1, given), not_books(1, "i"))
        self.fails(InvalidBook, lambda: origin(all_rows(1), 8, BS), given=BS)
        origin(all_rows(2), 8, BS)


BS = ("b",) * 8


class AgreeTest(Case):
    def test_plainly(self):
        chance = random.Random(137)
        agreeing = 0
        for reader in SMALL:
            most = {1: 12, 2: 8, 3: 6}[reader.signs]
            rows = yes_rows(reader, most)
            few = few_rows(reader)
            some = some_books(chance, reader.signs, 8, ("", "a", "b", "ab", "aa", "ba"))
            for book in some[:4]:
                for second in some:
                    apart = [row for row in rows if version_plainly(book, row) != version_plainly(second, row)]
                    found = first_difference(reader, book, second)
                    if apart:
                        self.assertEqual(found, apart[0])
                    elif found is not None:
                        self.assertGreater(len(found), most)
                        self.assertTrue(is_yes(reader, found))
                        self.assertNotEqual(version_plainly(book, found), version_plainly(second, found))
                    self.assertIs(agree(reader, book, second), found is None)
                    same = all(version_plainly(book, row) == version_plainly(second, row) for row in few)
                    self.assertIs(agree(reader, book, second), same)
                    agreeing += same and book != second
        self.assertGreater(agreeing, 20)

    def test_edges(self):
        self.assertIs(self.named(agree, reader=AB, book=("ab", "c"), second=("a", "bc")), True)
        self.assertEqual(self.named(first_difference, reader=AB, book=("a", "b"), second=("b", "a")), "ab")
        self.assertIs(agree(no_rows(2), ("a", "b"), ("", "hhhh")), True)
        self.assertIs(agree(only(2, ("",)), ("a", "b"), ("", "hhhh")), True)
        self.assertEqual(first_difference(all_rows(1), ("a",), ("",)), "a")
        # What stands unlike may be made good for only by being left out of all yes rows.
        self.assertIs(agree(Reader(2, ((0, 1), (None, None)), (0,)), ("a", "b"), ("a", "h")), True)
        # The one is ahead of the other by all signs but the last one.
        ends_b = Reader(3, tuple((at + 1, None, None) for at in range(50)) + ((None, 51, None), (None, 51, 0)), (51,))
        self.assertEqual(first_difference(ends_b, ("aa", "", "a"), ("a", "a", "a")), "a" * 50 + "b")
        self.assertEqual(first_difference(ends_b, ("aa", "b", "a"), ("aa", "b", "b")), "a" * 50 + "bc" + "a" * 50 + "b")

    def test_long_first_rows(self):
        # Each stand is met by rows with two delays, and the difference is seen late.
        for many in (10, 100, 199):
            line = Reader(2, tuple((at + 1, at + 1) for at in range(many)) + ((None, None),), (many,))
            self.assertEqual(first_difference(line, ("a", "b"), ("a", "ab")), "a" * (many - 1) + "b")
            self.assertEqual(first_difference(line, ("a", "aa"), ("a", "a")), "a" * (many - 1) + "b")
        loop = Reader(2, tuple(((at + 1) % 199, None) for at in range(198)) + ((0, 199), (None, None)), (199,))
        found = first_difference(loop, ("", "a"), ("a", ""))
        self.assertEqual(found, "a" * 198 + "b")

    def test_few_rows_are_as_told(self):
        for reader in SMALL + [only(3, ("abc", "ba")), cycle(7, 3)]:
            made = least(reader)
            every = list(rows_up_to(reader.signs, 7 if len(made) > 4 else 4))
            told = set()
            if first_yes(reader) is not None:
                told.add(first_yes(reader))
            for stand in range(len(made)):
                for at, goal in enumerate(made.arrows[stand]):
                    if goal is not None:
                        front = next(row for row in every if goes(made, 0, row) == stand)
                        rest = next(row for row in every if goes(made, goal, row) in made.ends)
                        told.add(front + LETTERS[at] + rest)
            self.assertEqual(few_rows(reader), tuple(sorted(told, key=row_order)))

    def test_few_rows_edges(self):
        self.assertEqual(self.named(few_rows, reader=AB), ("", "ab"))
        self.assertEqual([few_rows(no_rows(1)), few_rows(only(1, ("",))), few_rows(all_rows(3))],
                         [(), ("",), ("", "a", "b", "c")])
        self.assertEqual(few_rows(chain((199,))), ("a" * 199,))
        # Rows that are longer than parameters let them be.
        late = Reader(2, tuple((at + 1, None) for at in range(198)) + ((199, 0), (None, None)), (199,))
        self.assertEqual(few_rows(late), ("a" * 199, "a" * 198 + "b" + "a" * 199))
        self.assertEqual(first_difference(late, ("a", ""), ("a", "b")), "a" * 198 + "b" + "a" * 199)

    def test_wrong_values(self):
        for call in (agree, first_difference):
            self.fails_for_all(NotAReader, lambda given: call(given, 5, 5), NOT_READERS)
            self.fails_for_all(InvalidBook, lambda given: call(AB, given, 5), not_books(2, "i"))
            self.fails_for_all(InvalidBook, lambda given: call(AB, ("a", "b"), given), not_books(2, "i"))
        for call in (is_read_back, clash):
            self.fails_for_all(NotAReader, lambda given: call(given, 5), NOT_READERS)
            self.fails_for_all(InvalidBook, lambda given: call(AB, given), not_books(2, "i"))
        self.fails_for_all(NotAReader, few_rows, NOT_READERS)


class ReadBackTest(Case):
    def check_clash(self, reader, book):
        found = clash(reader, book)
        self.assertIs(is_read_back(reader, book), found is None)
        if found is not None:
            one, two = found
            self.assertIsInstance(found, tuple)
            self.assertNotEqual(one, two)
            self.assertTrue(is_yes(reader, one) and is_yes(reader, two))
            self.assertEqual(version_plainly(book, one), version_plainly(book, two))
        return found

    def test_plainly(self):
        chance = random.Random(138)
        kinds = []
        for reader in SMALL:
            rows = yes_rows(reader, {1: 12, 2: 8, 3: 6}[reader.signs])
            for book in some_books(chance, reader.signs, 8):
                found = self.check_clash(reader, book)
                kinds.append(found is None)
                if found is None:
                    versions = {version_plainly(book, row) for row in rows}
                    self.assertEqual(len(versions), len(rows))
        self.assertGreater(kinds.count(True), 100)
        self.assertGreater(kinds.count(False), 100)

    def test_edges(self):
        self.assertIs(self.named(is_read_back, reader=AB, book=("a", "")), True)
        self.assertIsNone(self.named(clash, reader=AB, book=("", "b")))
        self.assertIsNone(self.check_clash(no_rows(2), ("", "")))
        self.assertIsNone(self.check_clash(only(2, ("",)), ("", "")))
        self.assertIsNone(self.check_clash(all_rows(1), ("a",)))
        for reader, book in ((all_rows(1), ("",)), (AB, ("", "")), (all_rows(2), ("a", "aa")),
                             (only(2, ("", "a")), ("", "b")), (only(2, ("a", "b")), ("a", "a")),
                             (all_rows(3), ("a", "ab", "ba")), (cycle(200), ("",))):
            self.assertIsNotNone(self.check_clash(reader, book))
        # Endlessly many yes rows, of which words of unlike lengths never come to the same.
        for book in (("a", "ab", "abb"), ("a", "ba", "bba"), ("a", "ab", "bb"), ("ab", "abb", "bbab")):
            self.assertIsNone(self.check_clash(all_rows(3), book))
        # What is no code for all rows may be read back where not all rows are yes rows.
        self.assertIsNone(self.check_clash(Reader(2, ((0, 1), (None, 1)), (0, 1)), ("ab", "abab"[:2] + "a")))
        self.assertIsNone(self.check_clash(Reader(2, ((0, None),), (0,)), ("ab", "ab")))

    def test_long_clashes(self):
        # Either a's or b's alone are written: what is written by both is one row for some lengths alone.
        lines = ((1, 3), (2, None), (1, None), (None, 3))
        self.assertIsNone(self.check_clash(Reader(2, lines, (1, 3)), ("aaa", "aa")))
        self.assertIsNotNone(self.check_clash(Reader(2, lines, (2, 3)), ("aaa", "aa")))
        one, two = self.check_clash(Reader(2, ((1, 20),) + tuple((1 + at % 19, None) for at in range(1, 20))
                                           + tuple((None, 20 + (at + 1) % 17) for at in range(17)), (5, 22)), ("a", "a"))
        self.assertEqual(len(one), len(two))
        self.assertEqual(len(one) % 19, 5)
        self.assertEqual(len(one) % 17, 3)

    def test_great_readers(self):
        for seed, book in enumerate((tuple(LETTERS), ("a", "ab", "abb", "bbb", "c", "cc", "d", "dd"),
                                     ("a", "ba", "bba", "bbba", "c", "d", "e", "f"), ("",) * 8)):
            great = some_reader(random.Random(139 + seed), 8, 200, 0.5, 0.05)
            found = self.check_clash(great, book)
            self.assertIs(found is None, seed in (0, 2))
        self.assertIsNone(self.check_clash(chain((199,)), ("",)))
        self.assertEqual(longest(chain((198, 199))), 199)
        self.assertIsNotNone(self.check_clash(chain((198, 199)), ("",)))
