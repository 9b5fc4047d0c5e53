"""rowreaders.certificates: what is certified is so, in the form that is told; test_checker.py has the papers."""

import itertools
import random

from helpers import AB, EVEN, LETTERS, NOT_INTEGERS, NOT_READERS, STRANGE, Case, Stranger, chain, cycle, goes, is_yes
from helpers import least_plainly, rows_up_to, some_reader, with_useless, yes_rows

from rowreaders import certificates
from rowreaders.books import agree
from rowreaders.certificates import certify_books, certify_count, certify_duel, certify_least, certify_reset
from rowreaders.certificates import certify_same, certify_within
from rowreaders.checker import accepts
from rowreaders.errors import InvalidBook, InvalidNumber, InvalidSigns, NotAReader, NotFull, TooMany, UnlikeSigns
from rowreaders.likeness import least
from rowreaders.readers import Reader, all_rows, filled, no_rows, only

MET = Reader(2, ((1, 2), (3, 2), (1, 3), (3, 3)), (3,))
THREE = Reader(2, ((1, 1), (2, 1), (0, 2)), (0,))
OPPOSITE = {"same": "apart", "apart": "same", "within": "outside", "outside": "within", "agree": "differ",
            "differ": "agree", "resets": "parted", "parted": "resets", "forces": "bars", "bars": "forces"}


def triple(reader):
    return reader.signs, reader.arrows, reader.ends


def some_pairs(seed, many):
    """Pairs of readers with as many signs, quite often with the same yes rows."""
    chance = random.Random(seed)
    for _ in range(many):
        signs = chance.choice([1, 2, 2, 3, 8])
        one = some_reader(chance, signs, chance.randint(1, 4), chance.choice([0, 0.3]))
        other = some_reader(chance, signs, chance.randint(1, 4), chance.choice([0, 0.3]))
        yield one, chance.choice([other, filled(one), least(one), with_useless(one)])


class CertificatesCase(Case):
    def assert_accepted(self, certified):
        """The pair is a claim with a paper that the checker takes, and it takes the paper for no opposite claim."""
        self.assertIs(type(certified), tuple)
        claim, paper = certified
        self.assertIs(accepts(claim, paper), True)
        for other in self.opposites(claim):
            self.assertIs(accepts(other, paper), False)
        return claim

    def opposites(self, claim):
        word = claim[0]
        if word == "least":
            signs, arrows, ends = claim[1]
            return [(word, (signs, arrows + ((0,) * signs,), ends)), (word, (signs, arrows[:-1], ends))]
        if word == "count":
            return [claim[:3] + (claim[3] + 1,), claim[:3] + (claim[3] - 1,)]
        if word == "forces":
            fewer = [claim[:4] + (claim[4] - 1,)] if claim[4] else []
            return fewer + [("bars",) + claim[1:4], ("bars",) + claim[1:]]
        if word == "bars":
            return [("forces",) + claim[1:] + (many,) for many in (0, 1, 400, 10 ** 59)]
        if word == "parted":
            return [("resets", claim[1], row) for row in ("", "a", "aab")]
        return [(OPPOSITE[word],) + (claim[1:2] if word == "resets" else claim[1:])]


class CertificatesTest(CertificatesCase):
    def test_same(self):
        for one, other in some_pairs(201, 150):
            claim = self.assert_accepted(certify_same(one, other))
            same = least_plainly(one) == least_plainly(other)
            self.assertEqual(claim, ("same" if same else "apart", triple(one), triple(other)))
            if one.signs < 3:
                most = len(one) + len(other)
                apart = sorted(set(yes_rows(one, most)) ^ set(yes_rows(other, most)), key=lambda row: (len(row), row))
                self.assertEqual(certify_same(one, other)[1] if not same else None, apart[0] if apart else None)

    def test_within(self):
        for one, other in some_pairs(202, 150):
            claim = self.assert_accepted(certify_within(one, other))
            self.assertEqual(claim[1:], (triple(one), triple(other)))
            if one.signs < 3:
                most = len(one) + len(other)
                outside = [row for row in yes_rows(one, most) if not is_yes(other, row)]
                self.assertEqual(claim[0], "outside" if outside else "within")

    def test_least(self):
        for reader, _ in some_pairs(203, 100):
            for one in (reader, with_useless(reader)):
                claim = self.assert_accepted(certify_least(one))
                self.assertEqual(claim, ("least", (one.signs, *least_plainly(one))))
        self.assertEqual(certify_least(no_rows(3)), (("least", triple(no_rows(3))), (("",), ())))
        self.assertEqual(certify_least(with_useless(no_rows(2)))[0], ("least", triple(no_rows(2))))
        self.assertEqual(certify_least(all_rows(1)), (("least", triple(all_rows(1))), (("",), ())))

    def test_books(self):
        chance = random.Random(204)
        words = []
        for one, other in some_pairs(205, 100):
            book = tuple(chance.choice(["", "a", "b", "ab", "abab"]) for _ in range(one.signs))
            second = tuple(chance.choice([word, "a", "ba"]) for word in book)
            for reader, last in ((one, second), (other, book), (with_useless(one), second)):
                claim = self.assert_accepted(certify_books(reader, book, last))
                self.assertEqual(claim, ("agree" if agree(reader, book, last) else "differ", triple(reader), book, last))
                words.append(claim[0])
        self.assertEqual(set(words), {"agree", "differ"})
        self.assertEqual(certify_books(AB, ("ab", "c"), ("a", "bc"))[1], ((0, ""), (0, "b")))
        self.assertEqual(certify_books(AB, ("a", "bc"), ("ab", "c"))[1], ((0, ""), (1, "b")))
        self.assertEqual(certify_books(with_useless(AB), ("ab", "h"), ("a", "bh"))[1], ((0, ""), (0, "b"), None, None))
        self.assertEqual(certify_books(no_rows(1), ("a",), ("b",)), (("agree", triple(no_rows(1)), ("a",), ("b",)), (None,)))
        self.assertEqual(certify_books(EVEN, ("a", "b"), ("", "b")), (("differ", triple(EVEN), ("a", "b"), ("", "b")), "aa"))

    def test_duel(self):
        chance = random.Random(206)
        words = []
        for _ in range(150):
            signs = chance.choice([1, 2, 3])
            reader = some_reader(chance, signs, chance.randint(1, 4), chance.choice([0, 0.2]), 0.3)
            first, second = ["".join(sorted(chance.sample(LETTERS[:signs], chance.randint(1, signs)))) for _ in range(2)]
            claim = self.assert_accepted(certify_duel(reader, first, second))
            turns = [many for many in range(2 * len(reader) + 1) if self.is_forced(reader, (first, second), 0, 0, many)]
            wanted = ("forces", triple(reader), first, second, turns[0]) if turns else ("bars", triple(reader), first, second)
            self.assertEqual(claim, wanted)
            words.append(claim[0])
        self.assertEqual(set(words), {"forces", "bars"})
        self.assertEqual(certify_duel(MET, "ab", "ab")[0], ("forces", triple(MET), "ab", "ab", 3))
        self.assertEqual(certify_duel(EVEN, "b", "a")[0][4], 0)
        self.assertEqual(certify_duel(no_rows(2), "b", "a")[0][0], "bars")

    def is_forced(self, reader, lots, stand, turn, left):
        if stand in reader.ends or stand is None or not left:
            return stand in reader.ends
        told = [self.is_forced(reader, lots, reader.arrows[stand][LETTERS.index(sign)], 1 - turn, left - 1)
                for sign in lots[turn]]
        return all(told) if turn else any(told)

    def test_reset(self):
        chance = random.Random(207)
        words = []
        for _ in range(150):
            reader = some_reader(chance, chance.choice([1, 2, 2, 3]), chance.randint(1, 4), 0)
            claim = self.assert_accepted(certify_reset(reader))
            stands = range(len(reader))
            most = 9 if reader.signs < 3 else 4
            resets = [row for row in itertools.islice(rows_up_to(reader.signs, most), 1500)
                      if len({goes(reader, stand, row) for stand in stands}) == 1]
            self.assertEqual(claim, ("resets", triple(reader), resets[0]) if resets else claim)
            # Every two stands can be led to one, or no row resets the reader.
            pairs = {(one, two) for one in stands for two in stands if any(
                goes(reader, one, row) == goes(reader, two, row) for row in rows_up_to(reader.signs, 6))}
            self.assertEqual(claim[0], "resets" if len(pairs) == len(reader) ** 2 else "parted")
            words.append(claim[0])
        self.assertEqual(set(words), {"resets", "parted"})
        self.assertEqual(certify_reset(THREE), (("resets", triple(THREE), "baab"), ()))
        self.assertEqual(certify_reset(all_rows(4)), (("resets", triple(all_rows(4)), ""), ()))
        self.assertEqual(certify_reset(EVEN), (("parted", triple(EVEN)), ((0, 1),)))
        self.assert_accepted(certify_reset(filled(no_rows(2))))
        self.assert_accepted(certify_reset(cycle(12, 2)))

    def test_count(self):
        for reader, _ in some_pairs(208, 40):
            for one in (reader, with_useless(reader)):
                for length in range(4):
                    claim = self.assert_accepted(certify_count(one, length))
                    rows = itertools.product(LETTERS[:one.signs], repeat=length)
                    many = sum(is_yes(one, "".join(row)) for row in rows)
                    self.assertEqual(claim, ("count", triple(one), length, many))
        self.assertEqual(self.assert_accepted(certify_count(all_rows(8), 200))[3], 8 ** 200)
        self.assertEqual(self.assert_accepted(certify_count(no_rows(8), 200))[3], 0)

    def test_two_hundred_stands(self):
        ring, line = cycle(200, 2), chain((0, 199), 2)
        for one, other, words in ((ring, cycle(200, 2), "same within"), (line, line, "same within"),
                                  (ring, line, "apart outside"), (line, ring, "apart outside"),
                                  (ring, cycle(199, 2), "apart outside"), (ring, cycle(100, 2), "apart within"),
                                  (no_rows(2), ring, "apart within"), (ring, no_rows(2), "apart outside")):
            same, within = words.split()
            self.assertEqual(self.assert_accepted(certify_same(one, other))[0], same)
            self.assertEqual(self.assert_accepted(certify_within(one, other))[0], within)
        for reader in (ring, line, cycle(200, 1), chain((199,), 8)):
            self.assertEqual(self.assert_accepted(certify_least(reader))[1], triple(reader))
            self.assertEqual(self.assert_accepted(certify_count(reader, 200))[0], "count")
        wide = Reader(8, tuple((min(at + 1, 199),) * 7 + (0,) for at in range(200)), (199,))
        self.assertEqual(self.assert_accepted(certify_duel(wide, "abcdefgh", "abcdefg"))[4], 199)
        self.assertEqual(self.assert_accepted(certify_duel(wide, "abcdefgh", "abcdefgh"))[0], "bars")
        self.assertEqual(self.assert_accepted(certify_least(wide))[1], triple(wide))
        self.assertEqual(self.assert_accepted(certify_books(wide, ("ab",) * 8, ("ab",) * 8))[0], "agree")
        self.assertEqual(self.assert_accepted(certify_books(ring, ("ab", "c"), ("ab", "ab")))[0], "differ")
        self.assertEqual(self.assert_accepted(certify_books(ring, ("abc", "aba"), ("aba", "abc")))[0], "differ")
        self.assertEqual(self.assert_accepted(certify_books(line, ("abcd", ""), ("", "abcd")))[0], "differ")

    def test_texts_far_ahead(self):
        """The one version may be ahead by very much."""
        size = 200
        arrows = tuple((at + 1, None) if at < 99 else (None, at + 1 if at < 198 else None) for at in range(size))
        reader = Reader(2, arrows, (198,))
        claim, paper = certify_books(reader, ("aaaa", ""), ("", "aaaa"))
        self.assertEqual(self.assert_accepted((claim, paper))[0], "agree")
        self.assertEqual(paper[99], (0, "a" * 396))
        self.assertEqual(paper[199], None)


class WrongValuesTest(Case):
    def test_readers(self):
        for certify in (certify_same, certify_within):
            self.fails_for_all(NotAReader, lambda given: certify(given, None), NOT_READERS)
            self.fails_for_all(NotAReader, lambda given: certify(EVEN, given), NOT_READERS)
            self.fails(UnlikeSigns, lambda: certify(EVEN, all_rows(1)))
        self.fails_for_all(NotAReader, certify_least, NOT_READERS)
        self.fails_for_all(NotAReader, lambda given: certify_books(given, None, None), NOT_READERS)
        self.fails_for_all(NotAReader, lambda given: certify_duel(given, None, None), NOT_READERS)
        self.fails_for_all(NotAReader, certify_reset, NOT_READERS)
        self.fails_for_all(NotAReader, lambda given: certify_count(given, None), NOT_READERS)

    def test_books(self):
        wrong = STRANGE + ["ab", (), ("a",), ("a", "b", "c"), ("a", "abcde"), ("a", "i"), ("a", None), ["a", "b"],
                           (("a",), "b"), ("a", "B"), ("a", 1), (True, "b")]
        self.fails_for_all(InvalidBook, lambda given: certify_books(EVEN, given, None), wrong)
        self.fails_for_all(InvalidBook, lambda given: certify_books(EVEN, ("", "h"), given), wrong)

    def test_duel(self):
        wrong = [thing for thing in STRANGE if thing != "a"] + ["", "c", "ba", "aa", "abc", ("a",), ["a"], 0, 1]
        self.fails_for_all(InvalidSigns, lambda given: certify_duel(EVEN, given, None), wrong)
        self.fails_for_all(InvalidSigns, lambda given: certify_duel(EVEN, "a", given), wrong)

    def test_reset(self):
        self.fails(NotFull, lambda: certify_reset(AB))
        self.fails(NotFull, lambda: certify_reset(chain((20,))))
        self.fails(NotFull, lambda: certify_reset(no_rows(1)))
        self.fails(TooMany, lambda: certify_reset(cycle(13)), limit=12)
        self.fails(TooMany, lambda: certify_reset(cycle(200)), limit=12)

    def test_count(self):
        self.fails_for_all(InvalidNumber, lambda given: certify_count(EVEN, given),
                           NOT_INTEGERS + [-1, 201, 10 ** 59, Stranger()])

    def test_by_place_and_by_name(self):
        self.named(certify_same, reader=EVEN, other=AB)
        self.named(certify_within, inner=AB, outer=EVEN)
        self.named(certify_least, reader=MET)
        self.named(certify_books, reader=AB, book=("ab", "c"), second=("a", "bc"))
        self.named(certify_duel, reader=MET, first="a", second="b")
        self.named(certify_reset, reader=THREE)
        self.named(certify_count, reader=only(2, ("ab", "b")), length=2)

    def test_where_they_stand(self):
        for name in ("certify_same", "certify_within", "certify_least", "certify_books", "certify_duel", "certify_reset",
                     "certify_count"):
            self.assertEqual(getattr(certificates, name).__module__, "rowreaders.certificates")
