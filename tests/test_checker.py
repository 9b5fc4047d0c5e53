"""rowreaders.checker."""

import random

from helpers import AB, EVEN, LETTERS, NOT_READERS, STRANGE, Case, Stranger, chain, cycle, every_reader, goes, is_yes
from helpers import rows_up_to, some_reader, useful_plainly, with_useless, yes_rows

from rowreaders import checker
from rowreaders.certificates import certify_books, certify_count, certify_duel, certify_least, certify_reset
from rowreaders.certificates import certify_same, certify_within
from rowreaders.checker import accepts
from rowreaders.errors import NotFull
from rowreaders.readers import Reader, all_rows, filled, no_rows, only

MET = Reader(2, ((1, 2), (3, 2), (1, 3), (3, 3)), (3,))
THREE = Reader(2, ((1, 1), (2, 1), (0, 2)), (0,))
TWICE = Reader(2, ((1, 2), (2, 3), (1, 0), (0, 1)), (0, 2))
WORDS = ("same", "within", "apart", "outside", "least", "agree", "differ", "forces", "bars", "resets", "parted", "count")


def triple(reader):
    return reader.signs, reader.arrows, reader.ends


def is_int(value, low=0, high=10 ** 70):
    return type(value) is int and low <= value <= high


def is_row(value, signs, most=10 ** 9):
    return type(value) is str and len(value) <= most and set(value) <= set(LETTERS[:signs])


def reader_of(value):
    """The reader of a triple, None if it is none."""
    if type(value) is not tuple or len(value) != 3:
        return None
    try:
        return Reader(*value)
    except ValueError:
        return None


def parts_fit(claim):
    """The readers of a claim, None if it is no claim for the checker."""
    if type(claim) is not tuple or not claim or type(claim[0]) is not str or claim[0] not in WORDS:
        return None
    word, rest = claim[0], claim[1:]
    sizes = {"same": 2, "within": 2, "apart": 2, "outside": 2, "least": 1, "agree": 3, "differ": 3, "forces": 4, "bars": 3,
             "resets": 2, "parted": 1, "count": 3}
    if len(rest) != sizes[word]:
        return None
    many = 2 if sizes[word] == 2 and word != "resets" else 1
    readers = [reader_of(value) for value in rest[:many]]
    if None in [reader if reader is None else 0 for reader in readers]:
        return None
    signs = readers[0].signs
    if many == 2 and readers[1].signs != signs:
        return None
    if word in ("agree", "differ"):
        books = all(type(book) is tuple and len(book) == signs and all(is_row(part, 8, 4) for part in book)
                    for book in rest[1:])
        return readers if books else None
    if word in ("forces", "bars"):
        lots = all(is_row(lot, signs) and lot and sorted(set(lot)) == list(lot) for lot in rest[1:3])
        return readers if lots and (word == "bars" or is_int(rest[3])) else None
    if word == "resets":
        return readers if is_row(rest[1], signs) else None
    if word == "count":
        return readers if is_int(rest[1], 0, 200) and is_int(rest[2]) else None
    return readers


def stand_of(value, reader):
    return is_int(value, 0, len(reader) - 1)


def step(reader, stand, sign):
    return None if stand is None else reader.arrows[stand][sign]


def pairs_shown(word, reader, other, paper):
    for pair in paper:
        if type(pair) is not tuple or len(pair) != 2:
            return False
        for stand, whose in zip(pair, (reader, other)):
            if stand is not None and not stand_of(stand, whose):
                return False
    if len(set(paper)) != len(paper) or (0, 0) not in paper:
        return False
    for one, two in paper:
        here, there = one in reader.ends, two in other.ends
        if here and not there or word == "same" and here != there:
            return False
        for sign in range(reader.signs):
            if (step(reader, one, sign), step(other, two, sign)) not in paper:
                return False
    return True


def least_shown(reader, paper):
    if len(paper) != 2 or type(paper[0]) is not tuple or type(paper[1]) is not tuple:
        return False
    size = len(reader)
    pairs = [(one, two) for one in range(size) for two in range(size) if one < two]
    if len(paper[0]) != size or len(paper[1]) != len(pairs):
        return False
    if not all(is_row(row, reader.signs) for row in paper[0] + paper[1]):
        return False
    if any(goes(reader, 0, row) != stand for stand, row in enumerate(paper[0])):
        return False
    bare = size == 1 and not reader.ends and set(reader.arrows[0]) == {None}
    if useful_plainly(reader) != list(range(size)) and not bare:
        return False
    return all((goes(reader, one, row) in reader.ends) != (goes(reader, two, row) in reader.ends)
               for (one, two), row in zip(pairs, paper[1]))


def ahead(one, other):
    """What the one text is ahead of the other one, as a paper tells it, or None."""
    if one[:len(other)] == other:
        return 0, one[len(other):]
    return (1, other[len(one):]) if other[:len(one)] == one else None


def agree_shown(reader, book, other, paper):
    useful = useful_plainly(reader)
    if len(paper) != len(reader):
        return False
    for stand, told in enumerate(paper):
        if stand not in useful:
            if told is not None:
                return False
        elif type(told) is not tuple or len(told) != 2 or not is_int(told[0], 0, 1) or type(told[1]) is not str:
            return False
        elif (stand == 0 or stand in reader.ends) and told != (0, ""):
            return False
    for stand in useful:
        side, rest = paper[stand]
        for sign, goal in enumerate(reader.arrows[stand]):
            if goal in useful:
                one, two = (rest, "") if side == 0 else ("", rest)
                if ahead(one + book[sign], two + other[sign]) != paper[goal]:
                    return False
    return True


def is_plan(value, reader, lot):
    return len(value) == len(reader) and all(sign is None or type(sign) is str and sign in list(lot) for sign in value)


def choices(plan, lot, stand):
    return lot if stand is None or plan[stand] is None else plan[stand]


def most_turns(reader, first, second, plan, left):
    """How many signs it takes at most, for each place, if no more than so many are left; 10 ** 9 if more."""
    turns = {(stand, turn): 0 if stand in reader.ends else 10 ** 9 for stand in (None, *range(len(reader)))
             for turn in (0, 1)}
    for _ in range(left):
        for stand, turn in turns:
            if stand not in reader.ends:
                signs = second if turn else choices(plan, first, stand)
                goals = [step(reader, stand, LETTERS.index(sign)) for sign in signs]
                turns[stand, turn] = min(10 ** 9, 1 + max(turns[goal, 1 - turn] for goal in goals))
    return turns[0, 0]


def is_barred(reader, first, second, plan):
    places = [(0, 0)]
    for stand, turn in places:
        if stand in reader.ends:
            return False
        for sign in choices(plan, second, stand) if turn else first:
            place = (step(reader, stand, LETTERS.index(sign)), 1 - turn)
            if place not in places:
                places.append(place)
    return True


def parted_shown(reader, paper):
    if not paper or not is_full(reader):
        return False
    for pair in paper:
        if type(pair) is not tuple or len(pair) != 2 or not all(stand_of(stand, reader) for stand in pair):
            return False
        if pair[0] >= pair[1]:
            return False
    return len(set(paper)) == len(paper) and all(
        tuple(sorted(reader.arrows[stand][sign] for stand in pair)) in paper
        for pair in paper for sign in range(reader.signs))


def is_full(reader):
    return all(goal is not None for goals in reader.arrows for goal in goals)


def counted(reader, length):
    many = {0: 1}
    for _ in range(length):
        more = {}
        for stand in many:
            for goal in reader.arrows[stand]:
                if goal is not None:
                    more[goal] = more.get(goal, 0) + many[stand]
        many = more
    return sum(many.get(end, 0) for end in reader.ends)


def shown_plainly(claim, paper):
    """What accepts should return, written down once more."""
    readers = parts_fit(claim)
    if readers is None:
        return False
    word, reader = claim[0], readers[0]
    if word in ("apart", "outside", "differ"):
        if not is_row(paper, reader.signs):
            return False
        here = is_yes(reader, paper)
        if word == "differ":
            one, two = ["".join(book[LETTERS.index(sign)] for sign in paper) for book in claim[2:]]
            return here and one != two
        there = is_yes(readers[1], paper)
        return here != there if word == "apart" else here and not there
    if type(paper) is not tuple:
        return False
    if word in ("same", "within"):
        return pairs_shown(word, reader, readers[1], paper)
    if word == "least":
        return least_shown(reader, paper)
    if word == "agree":
        return agree_shown(reader, claim[2], claim[3], paper)
    if word == "forces":
        return is_plan(paper, reader, claim[2]) and most_turns(
            reader, claim[2], claim[3], paper, 2 * len(reader) + 3) <= claim[4]
    if word == "bars":
        return is_plan(paper, reader, claim[3]) and is_barred(reader, claim[2], claim[3], paper)
    if word == "parted":
        return parted_shown(reader, paper)
    if word == "resets":
        return paper == () and is_full(reader) and len({goes(reader, at, claim[2]) for at in range(len(reader))}) == 1
    return paper == () and counted(reader, claim[2]) == claim[3]


def some_certified(chance):
    """Claims with papers of all kinds, about readers made by chance."""
    signs = chance.choice([1, 2, 2, 3])
    one, two = [some_reader(chance, signs, chance.randint(1, 4), chance.choice([0, 0.3]), 0.4) for _ in range(2)]
    joined = Reader(signs, one.arrows, tuple(sorted({*one.ends, chance.randrange(len(one))})))
    book = tuple(chance.choice(["", "a", "b", "ab"]) for _ in range(signs))
    other = chance.choice([book, tuple(chance.choice(["", "a", "b", "ba"]) for _ in range(signs))])
    first, second = ["".join(sorted(chance.sample(LETTERS[:signs], chance.randint(1, signs)))) for _ in range(2)]
    found = [certify_same(one, two), certify_same(one, filled(one)), certify_same(with_useless(one), one),
             certify_within(one, two), certify_within(one, joined), certify_within(joined, one), certify_least(one),
             certify_books(one, book, other), certify_duel(one, first, second), certify_count(one, chance.randint(0, 9))]
    try:
        found.append(certify_reset(one))
    except NotFull:
        pass
    return found


def changed_at_any_depth(chance, value):
    """Something like the value, with one thing otherwise."""
    if isinstance(value, tuple) and value and chance.random() < 0.8:
        at = chance.randrange(len(value))
        kind = chance.randrange(12)
        if kind == 0:
            return value[:at] + value[at + 1:]
        if kind == 1:
            return value[:at] + (value[at],) + value[at:]
        if kind == 2:
            return tuple(chance.sample(value, len(value)))
        return value[:at] + (changed_at_any_depth(chance, value[at]),) + value[at + 1:]
    if isinstance(value, str) and chance.random() < 0.8:
        at = chance.randint(0, len(value))
        return value[:at] + chance.choice(["", "a", "b", "c", "i", "A", "-", " "]) + value[at + chance.randint(0, 1):]
    if type(value) is int and chance.random() < 0.8:
        return chance.choice([value + 1, value - 1, 0, 1, 10 ** 59, bool(value), None, str(value)])
    if value is None and chance.random() < 0.7:
        return chance.choice([0, 1, "a", "b", (0, ""), (0, "a"), ()])
    return chance.choice(STRANGE + [list(value) if isinstance(value, tuple) else [value], (value,), (), "", "a", 0, 1, 2,
                                    None, ((0, 0), (None, None)), (None, None), (0, "")])


class CheckerTest(Case):
    def test_papers_of_this_package(self):
        chance = random.Random(101)
        words = {}
        for _ in range(150):
            for claim, paper in some_certified(chance):
                words[claim[0]] = words.get(claim[0], 0) + 1
                self.assertIs(accepts(claim, paper), True)
                self.assertIs(shown_plainly(claim, paper), True)
        self.assertEqual(set(words), set(WORDS))

    def test_with_something_otherwise(self):
        chance = random.Random(102)
        kinds = {}
        for _ in range(60):
            for claim, paper in some_certified(chance):
                for _ in range(24):
                    other, told = claim, paper
                    for _ in range(chance.choice([1, 1, 2])):
                        if chance.random() < 0.5:
                            other = changed_at_any_depth(chance, other)
                        else:
                            told = changed_at_any_depth(chance, told)
                    wanted = shown_plainly(other, told)
                    self.assertIs(accepts(other, told), wanted, (other, told))
                    kinds[claim[0], wanted] = kinds.get((claim[0], wanted), 0) + 1
        for word in WORDS:
            self.assertGreater(kinds[word, False], 50)
            self.assertGreater(kinds.get((word, True), 0), 3, word)

    def test_papers_of_another_word(self):
        chance = random.Random(103)
        for _ in range(20):
            pairs = some_certified(chance)
            for claim, _ in pairs:
                for _, paper in pairs:
                    self.assertIs(accepts(claim, paper), shown_plainly(claim, paper))
                for word in WORDS:
                    for _, paper in pairs:
                        other = (word,) + claim[1:]
                        self.assertIs(accepts(other, paper), shown_plainly(other, paper))

    def test_anything_at_all(self):
        values = STRANGE + NOT_READERS + [WORDS, [], [("count",)], ("count",), ("count", ()), ("least", triple(EVEN)), "same",
                                          (("same",),), Stranger(), EVEN, ("", ""), ("same", None, None), (WORDS, ())]
        for claim in values:
            for paper in values[:12]:
                self.assertIs(accepts(claim, paper), False)
        shown = ("count", triple(EVEN), 2, 2)
        self.assertIs(accepts(shown, ()), True)
        for paper in values:
            self.assertIs(accepts(shown, paper), isinstance(paper, tuple) and not paper)
        self.assertIs(self.named(accepts, claim=shown, paper=()), True)
        self.assertEqual(checker.accepts.__module__, "rowreaders.checker")


class TrueTest(Case):
    """Whatever is accepted is true, as going through short rows tells."""

    def test_all_small_claims_about_two_readers(self):
        papers = [(), ((0, 0),), ((0, 0), (None, None)), ((0, 0), (0, None)), ((0, 0), (None, 0)), "", "a", "aa",
                  ((0, 0), (0, None), (None, None)), ((0, 0), (None, 0), (None, None))]
        readers = list(every_reader(1, 1)) + list(every_reader(1, 2))[::5]
        accepted = {}
        for one in readers:
            for two in readers:
                here, there = set(yes_rows(one, 5)), set(yes_rows(two, 5))
                true = {"same": here == there, "within": here <= there, "apart": here != there, "outside": not here <= there}
                for word in true:
                    for paper in papers:
                        if accepts((word, triple(one), triple(two)), paper):
                            self.assertTrue(true[word])
                            accepted[word] = True
        self.assertEqual(len(accepted), 4)

    def test_no_opposite_is_accepted_with_a_paper(self):
        opposite = {"same": "apart", "apart": "same", "within": "outside", "outside": "within", "agree": "differ",
                    "differ": "agree"}
        chance = random.Random(104)
        for _ in range(100):
            for claim, paper in some_certified(chance):
                if claim[0] in opposite:
                    self.assertIs(accepts((opposite[claim[0]],) + claim[1:], paper), False)
                elif claim[0] == "forces":
                    self.assertIs(accepts(("bars",) + claim[1:4], paper), False)
                    self.assertIs(accepts(claim[:4] + (claim[4] + 7,), paper), True)
                    if claim[4]:
                        self.assertIs(accepts(claim[:4] + (claim[4] - 1,), paper), False)
                elif claim[0] == "bars":
                    self.assertIs(accepts(("forces",) + claim[1:] + (99,), paper), False)
                elif claim[0] == "resets":
                    self.assertIs(accepts(("parted", claim[1]), paper), False)
                elif claim[0] == "parted":
                    for row in rows_up_to(claim[1][0], 3):
                        self.assertIs(accepts(("resets", claim[1], row), paper), False)
                        self.assertIs(accepts(("resets", claim[1], row), ()), False)
                elif claim[0] == "count":
                    self.assertIs(accepts(claim[:3] + (claim[3] + 1,), paper), False)


class OwnPapersTest(Case):
    """Papers written by hand that are none of those that this package makes."""

    def test_same_and_within(self):
        same = ("same", triple(EVEN), triple(TWICE))
        met = ((0, 0), (1, 1), (0, 2), (1, 3))
        self.assertIs(accepts(same, met), True)
        self.assertIs(accepts(same, met[::-1]), True)
        self.assertIs(accepts(("within", same[2], same[1]), ((0, 0), (1, 1), (2, 0), (3, 1))), True)
        self.assertIs(accepts(same, met + ((None, None),)), True)
        self.assertIs(accepts(same, met + ((0, 0),)), False)
        self.assertIs(accepts(same, met[:3]), False)
        self.assertIs(accepts(same, met + ((1, 0),)), False)
        self.assertIs(accepts(same, met[1:]), False)
        # More pairs than need be, if they keep to what is asked of pairs.
        pair = ("within", triple(AB), triple(all_rows(2)))
        self.assertIs(accepts(pair, ((0, 0), (1, 0), (None, 0))), True)
        self.assertIs(accepts(pair, ((0, 0), (1, 0), (None, 0), (None, None))), True)
        self.assertIs(accepts(pair, ((0, 0), (1, 0))), False)
        self.assertIs(accepts(("within", pair[2], pair[1]), ((0, 0), (0, 1), (0, None))), False)
        # Both lead nowhere, which must be there, too.
        self.assertIs(accepts(("same", triple(AB), triple(AB)), ((0, 0), (1, 1))), False)
        self.assertIs(accepts(("same", triple(AB), triple(AB)), ((0, 0), (1, 1), (None, None))), True)
        # None is no end.
        ends = Reader(1, ((None,),), (0,))
        self.assertIs(accepts(("same", triple(ends), triple(no_rows(1))), ((0, 0), (None, None))), False)
        self.assertIs(accepts(("within", triple(no_rows(1)), triple(ends)), ((0, 0), (None, None))), True)
        self.assertIs(accepts(("within", triple(no_rows(1)), triple(all_rows(1))), ((0, 0), (None, 0))), True)
        self.assertIs(accepts(("same", triple(no_rows(1)), triple(all_rows(1))), ((0, 0), (None, 0))), False)
        self.assertIs(accepts(("same", triple(no_rows(1)), triple(no_rows(2))), ((0, 0), (None, None))), False)
        self.assertIs(accepts(("same", triple(AB), triple(AB)), ((0, 0), (True, 1), (None, None))), False)
        self.assertIs(accepts(("same", triple(EVEN), triple(EVEN)), ((0, 0), (1, 1), (2, 2))), False)

    def test_rows(self):
        pair = (triple(EVEN), triple(AB))
        for row in ("b", "bb", "aa", "ab", "b" * 5000, "ab" * 2000 + "b"):
            self.assertIs(accepts(("apart",) + pair, row), is_yes(EVEN, row) != is_yes(AB, row))
            self.assertIs(accepts(("outside",) + pair, row), is_yes(EVEN, row) and not is_yes(AB, row))
            self.assertIs(accepts(("outside",) + pair[::-1], row), is_yes(AB, row) and not is_yes(EVEN, row))
        self.assertIs(accepts(("apart",) + pair, "ab"), True)
        self.assertIs(accepts(("outside",) + pair, "ab"), False)
        for row in ("c", "bc", "b\n", ("b",), ["b"], b"b", None, 0):
            self.assertIs(accepts(("apart",) + pair, row), False)
        self.assertIs(accepts(("apart", triple(all_rows(3)), triple(no_rows(2))), ""), False)

    def test_least(self):
        claim = ("least", triple(EVEN))
        for paper, wanted in (((("", "a"), ("",)), True), ((("bb", "aaab"), ("bbb",)), True), ((("aa", "ba"), ("aa",)), True),
                              ((("", "aa"), ("",)), False), ((("a", "a"), ("",)), False), ((("", "a"), ()), False),
                              ((("", "a"), ("", "")), False), ((("", "a", ""), ("",)), False), ((("",), ("",)), False),
                              ((["", "a"], ("",)), False), ((("", "a"), [""]), False), ((("", "a"), ("c",)), False),
                              ((("", "a"), (None,)), False), ((("", None), ("",)), False), ((("", "a"), ("",), ()), False),
                              ((("b" * 5000, "a" * 4001), ("b" * 5000,)), True)):
            self.assertIs(accepts(claim, paper), wanted, paper)
        # The stands are numbered otherwise than in the least reader.
        other = Reader(2, ((2, None), (2, None), (None, 1)), (0, 1))
        self.assertIs(accepts(("least", triple(other)), (("", "ab", "a"), ("", "", ""))), False)
        turned = Reader(1, ((2,), (None,), (1,)), (1,))
        self.assertIs(accepts(("least", triple(turned)), (("", "aa", "a"), ("", "a", ""))), True)
        self.assertIs(accepts(("least", triple(turned)), (("", "aa", "a"), ("", "", ""))), False)
        # A stand from which no row leads to an end, an arrow to it, stands that are alike, one that is not come to.
        useless = Reader(1, ((1,), (2,), (2,)), (1,))
        self.assertIs(accepts(("least", triple(useless)), (("", "a", "aa"), ("", "a", ""))), False)
        self.assertIs(accepts(("least", triple(filled(AB))), (("", "a", "b"), ("", "", "b"))), False)
        self.assertIs(accepts(("least", triple(TWICE)), (("", "a", "b", "ab"), ("", "", "", "", "", ""))), False)
        self.assertIs(accepts(("least", triple(Reader(1, ((None,), (0,)), (0,)))), (("", ""), ("a",))), False)
        # One stand alone.
        for reader, wanted in ((no_rows(1), True), (no_rows(8), True), (all_rows(2), True), (only(2, ("",)), True),
                               (Reader(1, ((0,),), ()), False), (Reader(2, ((None, 0),), ()), False)):
            self.assertIs(accepts(("least", triple(reader)), (("",), ())), wanted)
        self.assertIs(accepts(("least", triple(all_rows(2))), (("abab",), ())), True)
        self.assertIs(accepts(("least", triple(no_rows(2))), (("a",), ())), False)

    def test_books(self):
        claim = ("agree", triple(AB), ("ab", "c"), ("a", "bc"))
        for paper, wanted in ((((0, ""), (0, "b")), True), (((0, ""), (1, "b")), False), (((0, ""), (0, "")), False),
                              (((False, ""), (0, "b")), False), (((0, ""), None), False), ((None, (0, "b")), False),
                              (([0, ""], (0, "b")), False), (((0, ""), (0, "b"), None), False), (((0, ""),), False),
                              (((0, ""), (0, "b", 0)), False), (((1, ""), (0, "b")), False), ((), False)):
            self.assertIs(accepts(claim, paper), wanted, paper)
        self.assertIs(accepts(("agree", claim[1], claim[3], claim[2]), ((0, ""), (1, "b"))), True)
        # Of none ahead the side is 0.
        self.assertIs(accepts(("agree", triple(AB), ("a", "b"), ("a", "b")), ((0, ""), (1, ""))), False)
        self.assertIs(accepts(("agree", triple(AB), ("a", "b"), ("a", "b")), ((0, ""), (0, ""))), True)
        self.assertIs(accepts(("agree", triple(no_rows(1)), ("a",), ("b",)), (None,)), True)
        self.assertIs(accepts(("agree", triple(no_rows(1)), ("a",), ("b",)), ((0, ""),)), False)
        self.assertIs(accepts(("agree", triple(filled(AB)), ("ab", "c"), ("a", "bc")), ((0, ""), (0, "b"), None)), True)
        for book in (("ab",), ("ab", "c", "d"), ["ab", "c"], ("ab", "i"), ("abcab", "c"), ("ab", None), "ab", None):
            self.assertIs(accepts(("agree", triple(AB), book, ("a", "bc")), ((0, ""), (0, "b"))), False)
            self.assertIs(accepts(("differ", triple(AB), ("h", "h"), book), "ab"), False)
        differ = ("differ", triple(AB), ("a", "b"), ("b", "a"))
        for row, wanted in (("ab", True), ("abab", True), ("ab" * 3000, True), ("", False), ("ba", False), ("aba", False)):
            self.assertIs(accepts(differ, row), wanted)
        self.assertIs(accepts(("differ", triple(all_rows(2)), ("a", "b"), ("b", "a")), "b"), True)
        self.assertIs(accepts(("differ", triple(EVEN), ("a", ""), ("", "a")), "aabb"), False)

    def test_duels(self):
        forces = ("forces", triple(MET), "ab", "ab")
        for plan, wanted in ((("a", "a", "b", None), True), (("a", "a", "b", "b"), True), (("b", "a", "b", "a"), True),
                             (("a", None, "b", None), True), ((None, "a", "b", None), True), (("a", "a", "b"), False),
                             (("a", "b", "a", None), False), (["a", "a", "b", None], False), (("a", "a", "c", None), False),
                             (("a", "a", "ab", None), False), (("a", "a", "", None), False), (("a", "a", 1, None), False)):
            for turns in (3, 4, 200, 10 ** 59):
                self.assertIs(accepts(forces + (turns,), plan), wanted, plan)
            for turns in (2, 0, -1, True, None, "3", (3,)):
                self.assertIs(accepts(forces + (turns,), plan), False)
        self.assertIs(accepts(("forces", triple(all_rows(2)), "a", "b", 0), (None,)), True)
        self.assertIs(accepts(("forces", triple(all_rows(2)), "a", "b", 0), ("b",)), False)
        bars = ("bars", triple(MET), "a", "b")
        self.assertIs(accepts(bars, (None, None, None, None)), True)
        self.assertIs(accepts(bars, ("b", "b", "b", "b")), True)
        self.assertIs(accepts(bars, ("a", None, None, None)), False)
        line = Reader(2, ((1, 1), (2, 3), (2, 2), (3, 3)), (3,))
        for plan, wanted in ((("a", "a", "a", "a"), True), ((None, "a", None, None), True), ((None,) * 4, False),
                             ((None, "b", None, None), False)):
            self.assertIs(accepts(("bars", triple(line), "ab", "ab"), plan), wanted)
        self.assertIs(accepts(("bars", triple(Reader(2, ((1, 1), (None, None)), (1,))), "a", "b"), (None, None)), False)
        self.assertIs(accepts(("bars", triple(only(2, ("",))), "a", "b"), (None,)), False)
        for lot in ("", "ba", "aa", "c", "abc", None, ("a",), ["a"], 0):
            self.assertIs(accepts(("bars", triple(MET), lot, "b"), (None,) * 4), False)
            self.assertIs(accepts(("bars", triple(MET), "a", lot), (None,) * 4), False)
            self.assertIs(accepts(("forces", triple(all_rows(2)), lot, "b", 1), (None,)), False)

    def test_leading(self):
        resets = ("resets", triple(THREE))
        for row, wanted in (("baab", True), ("baab" * 2000, True), ("ab" * 7 + "baaba", True), ("baa", False), ("", False),
                            ("b" * 4001, False), ("baabc", False), (None, False), (("baab",), False), (b"baab", False)):
            self.assertIs(accepts(resets + (row,), ()), wanted)
            self.assertIs(accepts(resets + (row,), ("",)), False)
            self.assertIs(accepts(resets + (row,), None), False)
            self.assertIs(accepts(resets + (row,), []), False)
        self.assertIs(accepts(("resets", triple(all_rows(3)), ""), ()), True)
        self.assertIs(accepts(("resets", triple(no_rows(3)), ""), ()), False)
        self.assertIs(accepts(("resets", triple(filled(AB)), "aa"), ()), True)
        self.assertIs(accepts(("resets", triple(Reader(1, ((None,), (None,)), ())), "a"), ()), False)
        parted = ("parted", triple(cycle(4)))
        whole = tuple((one, two) for one in range(4) for two in range(one + 1, 4))
        for paper, wanted in ((whole, True), (whole[::-1], True), (((0, 2), (1, 3)), True), (((1, 3), (0, 2)), True),
                              (((0, 1), (1, 2), (2, 3), (0, 3)), True), ((), False), (((0, 2),), False),
                              (((0, 2), (1, 3), (0, 2)), False), (((2, 0), (1, 3)), False), (((0, 0),), False),
                              (((0, 2), (1, 3), (0, 4)), False), (([0, 2], (1, 3)), False), (((0, 2), (True, 3)), False),
                              ([(0, 2), (1, 3)], False), (((0, 2), (1, 3), (0, 1)), False), (((0, 2), (1, 3), None), False)):
            self.assertIs(accepts(parted, paper), wanted, paper)
        self.assertIs(accepts(("parted", triple(Reader(1, ((0,), (1,), (None,)), ()))), ((0, 1),)), False)
        self.assertIs(accepts(("parted", triple(Reader(1, ((0,), (1,), (1,)), ()))), ((0, 1),)), True)
        self.assertIs(accepts(("parted", triple(all_rows(1))), ((0, 0),)), False)

    def test_count(self):
        for reader, length, many in ((EVEN, 200, 2 ** 199), (EVEN, 0, 1), (AB, 7, 0), (all_rows(8), 200, 8 ** 200)):
            claim = ("count", triple(reader), length)
            self.assertIs(accepts(claim + (many,), ()), True)
            for other in (many + 1, -many - 1, str(many), None, (many,), [many]):
                self.assertIs(accepts(claim + (other,), ()), False)
        for length, many in ((201, 1), (-1, 0), (True, 1), ("7", 1), (None, 1), (7, True), (10 ** 59, 1), (7, 1, 1)[:2]):
            wanted = (length, many) == (7, 1) and many is not True
            self.assertIs(accepts(("count", triple(all_rows(1)), length, many), ()), wanted)
        self.assertIs(accepts(("count", triple(all_rows(1)), 7, 1, 1), ()), False)
        self.assertIs(accepts(("count", triple(all_rows(1)), 7), ()), False)

    def test_triples(self):
        good = triple(EVEN)
        for value in (list(good), good + ((),), good[:2], EVEN, (True, ((0,),), (0,)), (2, [(1, 0), (0, 1)], (0,)),
                      (2, ((1, 0), [0, 1]), (0,)), (2, ((1, 0), (0, 2)), (0,)), (2, ((1, 0), (0, True)), (0,)),
                      (2, ((1, 0), (0, 1)), [0]), (2, ((1, 0), (0, 1)), (2,)), (2, ((1, 0), (0, 1)), (1, 0)),
                      (2, ((1, 0), (0, 1)), (False,)), (0, ((),), ()), (9, ((0,) * 9,), (0,)), (2, (), ()), None, "",
                      (2, ((1, 0), (0, 1), ()), (0,)), (1, ((0,),) * 201, (0,)), (3, ((1, 0), (0, 1)), (0,))):
            self.assertIs(accepts(("count", value, 1, 1), ()), False)
            self.assertIs(accepts(("same", value, good), ((0, 0), (1, 1))), False)
            self.assertIs(accepts(("same", good, value), ((0, 0), (1, 1))), False)
            self.assertIs(accepts(("apart", good, value), "a"), False)
        self.assertIs(accepts(("same", good, good), ((0, 0), (1, 1))), True)
        great = triple(cycle(200, 8))
        self.assertIs(accepts(("same", great, great), tuple((at, at) for at in range(200))), True)
        self.assertIs(accepts(("same", triple(chain((199,))), triple(chain((198,)))), ((0, 0),)), False)
