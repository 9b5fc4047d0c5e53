"""rowreaders.shelves."""

import random

from helpers import AB, EVEN, LETTERS, NOT_READERS, STRANGE, Case, Stranger, chain, cycle, is_yes, least_plainly
from helpers import some_reader, yes_rows

from rowreaders import shelves
from rowreaders.errors import Broken, InUse, InvalidClaim, InvalidDeeds, InvalidIndex, InvalidName, NotAReader
from rowreaders.errors import NothingToUndo, UnknownName
from rowreaders.readers import Reader, all_rows, filled, no_rows, only
from rowreaders.shelves import Shelf

AA = Reader(2, ((1, None), (0, None)), (0,))
NO_NAMES = ["", "abcdefghi", "A", "aB", "a1", "1", "a ", " a", "a-b", "-", "a_b", "a\n", "\n", "\u00e4", "\u03b1", "=",
            None, True, False, 0, 1, ("a",), ["a"], {"a": 1}, b"a", {"a"}, Stranger(), EVEN, str]
NO_KEYS = [[], {}, set(), ["a"], {"a": 1}, ([],), None, True, 0, 1, b"even", ("even",), "eve", "evens", "", "Even",
           Stranger(), EVEN, len, -1, 10 ** 59]
NO_CLAIMS = [
    None, True, 0, "", "same", "endless", (), ("same",), ("same", "even"), ("same", "even", "even", "even"),
    ["same", "even", "even"], ("Same", "even", "even"), ("within", "even"), ("apart", "even"), ("groupfree",),
    ("groupfree", "even", "even"), ("endless",), ("endless", "even", 1), ("few", "even"), ("few", "even", 0),
    ("few", "even", 201), ("few", "even", -1), ("few", "even", True), ("few", "even", "2"), ("few", "even", None),
    ("few", "even", (2,)), ("few", "even", 2, 2), ("few", "even", 10 ** 59), ("yes", "even"), ("yes", "even", None),
    ("yes", "even", "i"), ("yes", "even", "A"), ("yes", "even", "a "), ("yes", "even", "-"), ("yes", "even", ("a",)),
    ("yes", "even", "a" * 201), ("yes", "even", b"a"), ("yes", "even", "a", "a"), ("no", "even"), ("no", "even", 0),
    ("no", "even", "j"), ("no", "even", "h" * 201), ("no", "even", ["a"]), ("outside", "even", "even"), ("", "even"),
    (None, "even"), (("same",), "even", "even"), ([], "even"), (True, "even"), (0, "even", "even"), ("put", "even", EVEN),
    ("drop", "even"), ("lift", 0), {"same": 1}, [("endless", "even")], (("endless", "even"),), EVEN, Stranger(), ("undo",)]


def state(shelf):
    return shelf.names, [shelf[name] for name in shelf.names], shelf.claims, shelf.changes, len(shelf)


def is_groupfree_plainly(reader):
    """Whether no power of a row goes round, going through all that rows do to the stands of the least reader."""
    arrows, _ = least_plainly(reader)
    signs = [tuple(goals[sign] for goals in arrows) for sign in range(reader.signs)]

    def joined(one, other):
        return tuple(None if goal is None else other[goal] for goal in one)
    deeds = [tuple(range(len(arrows)))]
    for deed in deeds:
        deeds += [more for more in dict.fromkeys(joined(deed, sign) for sign in signs) if more not in deeds]
    if len(deeds) > 500:
        return False
    for deed in deeds:
        powers = [deed]
        while joined(powers[-1], deed) not in powers:
            powers.append(joined(powers[-1], deed))
        if joined(powers[-1], deed) != powers[-1]:
            return False
    return True


def holds_plainly(claim, readers):
    word, one = claim[0], readers[claim[1]]
    if word in ("same", "within", "apart"):
        two = readers[claim[2]]
        if one.signs != two.signs:
            return False
        most = min(len(one) + len(two), 7)
        here, there = set(yes_rows(one, most)), set(yes_rows(two, most))
        return {"same": here == there, "within": here <= there, "apart": not here & there}[word]
    if word == "groupfree":
        return is_groupfree_plainly(one)
    if word == "endless":
        return any(len(row) >= len(one) for row in yes_rows(one, 2 * len(one) - 1))
    if word == "few":
        return len(least_plainly(one)[0]) <= claim[2]
    fits = all(sign in LETTERS[:one.signs] for sign in claim[2])
    return (fits and is_yes(one, claim[2])) == (word == "yes")


class OwnShelf:
    """A dict and a list, kept by hand, with all that has been before; each change tells the error it should."""

    def __init__(self):
        self.readers, self.claims, self.past = {}, [], []

    def step(self, readers, claims):
        for index, claim in enumerate(claims):
            if not holds_plainly(claim, readers):
                return Broken, index
        self.past.append((self.readers, self.claims))
        self.readers, self.claims = readers, claims
        return None

    def put(self, name, reader):
        return self.step({**self.readers, name: reader}, self.claims)

    def drop(self, name):
        if name not in self.readers:
            return UnknownName, name
        for index, claim in enumerate(self.claims):
            if name in claim[1:2] + (claim[2:3] if claim[0] in ("same", "within", "apart") else ()):
                return InUse, index
        return self.step({other: reader for other, reader in self.readers.items() if other != name}, self.claims)

    def claim(self, claim):
        for name in claim[1:3] if claim[0] in ("same", "within", "apart") else claim[1:2]:
            if name not in self.readers:
                return UnknownName, name
        return self.step(self.readers, self.claims + [claim])

    def lift(self, index):
        if not 0 <= index < len(self.claims):
            return InvalidIndex, index
        return self.step(self.readers, self.claims[:index] + self.claims[index + 1:])

    def undo(self):
        if not self.past:
            return NothingToUndo, None
        self.readers, self.claims = self.past.pop()
        return None


NAMES = ["a", "b", "again", "first", "zzzzzzzz"]


def some_claim(chance):
    word = chance.choice(["same", "within", "apart", "groupfree", "endless", "few", "yes", "no"])
    one, two = chance.choice(NAMES), chance.choice(NAMES)
    if word in ("same", "within", "apart"):
        return word, one, two
    if word == "few":
        return word, one, chance.randint(1, 3)
    if word in ("yes", "no"):
        return word, one, "".join(chance.choice("aab") for _ in range(chance.randint(0, 4)))
    return word, one


def some_change(chance):
    """A change by chance, as a deed; undo is told as one, too."""
    kind = chance.choice(["put"] * 5 + ["claim"] * 7 + ["drop", "lift", "undo"])
    if kind == "put":
        signs = chance.choice([1, 2, 2, 2])
        return kind, chance.choice(NAMES), some_reader(chance, signs, chance.randint(1, 3), 0.2, 0.5)
    if kind == "claim":
        return kind, some_claim(chance)
    if kind == "undo":
        return (kind,)
    return (kind, chance.choice(NAMES)) if kind == "drop" else (kind, chance.randint(-1, 4))


def do(shelf, change):
    word, *rest = change
    if word == "put":
        shelf[rest[0]] = rest[1]
        return None
    return getattr(shelf, word)(*rest)


class ShelfTest(Case):
    def test_many_changes(self):
        chance = random.Random(91)
        errors = {}
        for _ in range(60):
            shelf, own = Shelf(), OwnShelf()
            for _ in range(40):
                change = some_change(chance)
                before = state(shelf)
                wanted = getattr(own, change[0])(*change[1:])
                if wanted is None:
                    self.assertIsNone(do(shelf, change))
                else:
                    error, told = wanted
                    attributes = {} if error is NothingToUndo else {
                        "index" if error in (Broken, InUse) else "given": told}
                    self.fails(error, lambda: do(shelf, change), **attributes)
                    self.assertEqual(state(shelf), before)
                errors[wanted and wanted[0]] = errors.get(wanted and wanted[0], 0) + 1
                names = tuple(sorted(own.readers))
                readers = [own.readers[name] for name in names]
                self.assertEqual(state(shelf), (names, readers, tuple(own.claims), len(own.past), len(names)))
                self.assertIs(bool(shelf), bool(names))
        self.assertEqual(set(errors), {None, Broken, InUse, UnknownName, InvalidIndex, NothingToUndo})
        self.assertGreater(min(errors.values()), 5)

    def test_edges(self):
        shelf = Shelf()
        self.assertEqual(state(shelf), ((), [], (), 0, 0))
        self.assertIs(bool(shelf), False)
        shelf["even"] = EVEN
        self.assertIs(bool(shelf), True)
        self.assertIs(shelf["even"], EVEN)
        for name in ("z", "abcdefgh", "drop", "a"):
            shelf[name] = AB
        self.assertEqual(shelf.names, ("a", "abcdefgh", "drop", "even", "z"))
        # Putting what is there already counts, too.
        shelf["even"] = EVEN
        self.assertEqual((shelf.changes, len(shelf)), (6, 5))
        names, claims = shelf.names, shelf.claims
        self.assertIsNone(shelf.drop(name="z"))
        self.assertIsNone(shelf.claim(claim=("few", "a", 2)))
        self.assertIsNone(shelf.claim(("few", "a", 2)))
        self.assertEqual((names, claims), (("a", "abcdefgh", "drop", "even", "z"), ()))
        self.assertEqual(shelf.claims, (("few", "a", 2), ("few", "a", 2)))
        self.fails(Broken, lambda: do(shelf, ("put", "a", cycle(3))), index=0)
        self.assertIsNone(shelf.lift(index=0))
        self.assertEqual(shelf.claims, (("few", "a", 2),))
        self.fails(InUse, lambda: shelf.drop("a"), index=0)
        self.assertIsNone(shelf.lift(0))
        self.assertIsNone(shelf.drop("a"))
        self.assertEqual(shelf.changes, 12)
        for left in range(11, -1, -1):
            self.assertIsNone(shelf.undo())
            self.assertEqual(shelf.changes, left)
        self.assertEqual(state(shelf), ((), [], (), 0, 0))
        self.fails(NothingToUndo, shelf.undo)

    def test_there_may_be_many(self):
        shelf = Shelf()
        for at in range(300):
            shelf["a" + LETTERS[at // 64] + LETTERS[at // 8 & 7] + LETTERS[at & 7]] = EVEN
        for at in range(100):
            shelf.claim(("yes", "aaaa", ""))
        self.assertEqual((shelf.changes, len(shelf), len(shelf.claims)), (400, 300, 100))
        self.fails(Broken, lambda: do(shelf, ("put", "aaaa", no_rows(1))), index=0)
        while shelf.changes:
            shelf.undo()
        self.assertEqual(state(shelf), ((), [], (), 0, 0))

    def test_equal_to_itself_alone(self):
        shelf = Shelf()
        self.assertTrue(shelf == shelf)
        self.assertFalse(shelf != shelf)
        for other in (Shelf(), None, (), {}, "shelf"):
            self.assertFalse(shelf == other)
            self.assertTrue(shelf != other)
        for name in ("names", "claims", "changes"):
            self.assertIsInstance(vars(Shelf)[name], property)
        for name in ("drop", "claim", "lift", "undo", "do_all", "trial", "tried", "__getitem__", "__setitem__", "__len__",
                     "__contains__", "__bool__"):
            self.assertIn(name, vars(Shelf))
        self.assertEqual(shelves.Shelf.__module__, "rowreaders.shelves")

    def test_in(self):
        shelf = Shelf()
        shelf["even"] = EVEN
        self.assertIs("even" in shelf, True)
        for value in NO_KEYS:
            self.assertIs(value in shelf, False)
            self.assertIs(value not in shelf, True)


class WrongTest(Case):
    def some_shelf(self):
        shelf = Shelf()
        shelf.do_all(("put", "even", EVEN), ("put", "all", all_rows(2)), ("put", "ab", AA), ("put", "one", cycle(3)),
                     ("claim", ("within", "even", "all")), ("claim", ("few", "even", 2)),
                     ("claim", ("within", "ab", "even")), ("claim", ("no", "one", "a")))
        return shelf

    def assert_kept(self, shelf, error, call, **attributes):
        before = state(shelf)
        self.fails(error, call, **attributes)
        self.assertEqual(state(shelf), before)

    def test_put(self):
        shelf = self.some_shelf()
        for name in NO_NAMES:
            self.assert_kept(shelf, InvalidName, lambda: do(shelf, ("put", name, None)), given=name)
        for reader in NOT_READERS:
            self.assert_kept(shelf, NotAReader, lambda: do(shelf, ("put", "even", reader)), given=reader)
        # The first of the claims that would not hold.
        for name, reader, index in (("even", cycle(3, 2), 1), ("even", all_rows(3), 0), ("even", no_rows(2), 2),
                                    ("all", no_rows(2), 0), ("ab", all_rows(2), 2), ("one", all_rows(1), 3),
                                    ("ab", no_rows(1), 2)):
            self.assert_kept(shelf, Broken, lambda: do(shelf, ("put", name, reader)), index=index)
        shelf["one"] = cycle(5)
        shelf["ab"] = no_rows(2)
        self.assertEqual(shelf.changes, 10)

    def test_unknown_names(self):
        shelf = self.some_shelf()
        for value in NO_KEYS:
            self.assert_kept(shelf, UnknownName, lambda: shelf[value], given=value)
            self.assert_kept(shelf, UnknownName, lambda: shelf.drop(value), given=value)
            self.assert_kept(shelf, UnknownName, lambda: shelf.claim(("same", value, "x")), given=value)
            self.assert_kept(shelf, UnknownName, lambda: shelf.claim(("within", "all", value)), given=value)
            self.assert_kept(shelf, UnknownName, lambda: shelf.claim(("apart", value, value)), given=value)
            self.assert_kept(shelf, UnknownName, lambda: shelf.claim(("groupfree", value)), given=value)
            self.assert_kept(shelf, UnknownName, lambda: shelf.claim(("endless", value)), given=value)
            self.assert_kept(shelf, UnknownName, lambda: shelf.claim(("few", value, 1)), given=value)
            self.assert_kept(shelf, UnknownName, lambda: shelf.claim(("yes", value, "h" * 200)), given=value)
            self.assert_kept(shelf, UnknownName, lambda: shelf.claim(("no", value, "")), given=value)

    def test_in_use(self):
        shelf = self.some_shelf()
        for name, index in (("even", 0), ("all", 0), ("ab", 2), ("one", 3)):
            self.assert_kept(shelf, InUse, lambda: shelf.drop(name), index=index)
        shelf.lift(0)
        for name, index in (("even", 0), ("ab", 1), ("one", 2)):
            self.assert_kept(shelf, InUse, lambda: shelf.drop(name), index=index)
        shelf.drop("all")
        shelf.lift(0)
        # The name stands in the second place alone.
        self.assert_kept(shelf, InUse, lambda: shelf.drop("even"), index=0)
        # A row is no name.
        shelf["a"] = AB
        shelf.drop("a")

    def test_claims(self):
        shelf = self.some_shelf()
        for claim in NO_CLAIMS:
            self.assert_kept(shelf, InvalidClaim, lambda: shelf.claim(claim), given=claim)
        for strange in ([], None, EVEN):
            for form in (("same", strange), ("same", strange, strange, 1), ("few", strange, 0), ("yes", strange, "i")):
                self.assert_kept(shelf, InvalidClaim, lambda: shelf.claim(form), given=form)
        self.assert_kept(shelf, Broken, lambda: shelf.claim(("same", "even", "all")), index=4)
        shelf.lift(1)
        self.assert_kept(shelf, Broken, lambda: shelf.claim(("few", "even", 1)), index=3)

    def test_lift(self):
        shelf = self.some_shelf()
        for index in (-1, 4, 10 ** 59, -10 ** 59, True, False, None, "0", "", (0,), [0], EVEN, Stranger()):
            self.assert_kept(shelf, InvalidIndex, lambda: shelf.lift(index), given=index)
        self.fails(InvalidIndex, lambda: Shelf().lift(0), given=0)
        shelf.lift(3)
        self.assert_kept(shelf, InvalidIndex, lambda: shelf.lift(3), given=3)
        shelf.lift(1)
        self.assertEqual(shelf.claims, (("within", "even", "all"), ("within", "ab", "even")))


class ClaimTest(Case):
    def holds(self, claim, *readers):
        shelf = Shelf()
        for name, reader in zip(NAMES, readers):
            shelf[name] = reader
        try:
            shelf.claim(claim)
        except Broken as error:
            self.assertEqual(error.index, 0)
            return False
        self.assertEqual(shelf.claims, (claim,))
        return True

    def test_each_form(self):
        two = ("same", "within", "apart")
        for one, other, wanted in (
                (EVEN, filled(EVEN), (True, True, False)), (AB, filled(AB), (True, True, False)),
                (AA, EVEN, (False, True, False)), (EVEN, AA, (False, False, False)), (AB, EVEN, (False, False, False)),
                (only(2, ("a",)), EVEN, (False, False, True)), (no_rows(2), EVEN, (False, True, True)),
                (no_rows(2), no_rows(2), (True, True, True)), (no_rows(1), no_rows(2), (False, False, False)),
                (all_rows(1), all_rows(2), (False, False, False)), (only(1, ("a",)), EVEN, (False, False, False)),
                (cycle(200), cycle(100), (False, True, False)), (cycle(100), cycle(200), (False, False, False))):
            for word, told in zip(two, wanted):
                self.assertIs(self.holds((word, "a", "b"), one, other), told)
                self.assertIs(self.holds((word, "a", "a"), one), (word != "apart") or one == no_rows(one.signs))
        for reader, wanted in ((AB, True), (EVEN, False), (no_rows(2), True), (all_rows(8), True), (cycle(3), False)):
            self.assertIs(self.holds(("groupfree", "a"), reader), wanted)
        for reader, wanted in ((AB, True), (only(2, ("ab",)), False), (no_rows(2), False), (chain((199,)), False),
                               (Reader(1, ((1,), (1,)), (0,)), False), (cycle(200), True)):
            self.assertIs(self.holds(("endless", "a"), reader), wanted)

    def test_too_many_deeds(self):
        # Signs lead one on or back in a line of stands, so that nothing goes round; eleven stands have 396
        # deeds, twelve have more than 500.
        for stands, wanted in ((2, True), (11, True), (12, False), (200, False)):
            line = Reader(2, tuple((min(at + 1, stands - 1), max(at - 1, 0)) for at in range(stands)), (0,))
            self.assertIs(self.holds(("groupfree", "a"), line), wanted)
        self.assertIs(self.holds(("groupfree", "a"), chain((199,))), True)
        self.assertIs(self.holds(("groupfree", "a"), cycle(200)), False)

    def test_few_yes_and_no(self):
        for many, wanted in ((1, False), (2, True), (3, True), (200, True)):
            self.assertIs(self.holds(("few", "a", many), EVEN), wanted)
        self.assertIs(self.holds(("few", "a", 1), Reader(1, ((1,), (0,)), (0, 1))), True)
        self.assertIs(self.holds(("few", "a", 199), cycle(200)), False)
        self.assertIs(self.holds(("few", "a", 200), cycle(200)), True)
        for row, wanted in (("", True), ("a", False), ("aba", True), ("b" * 200, True), ("a" * 199, False), ("c", False),
                            ("abh", False), ("aac", False), ("h" * 200, False)):
            self.assertIs(self.holds(("yes", "a", row), EVEN), wanted)
            self.assertIs(self.holds(("no", "a", row), EVEN), not wanted)


class DoAllTest(Case):
    def test_do_all(self):
        shelf = Shelf()
        self.assertEqual(shelf.do_all(), 0)
        self.assertEqual(shelf.changes, 0)
        self.assertEqual(shelf.do_all(("put", "a", EVEN), ("put", "b", AA), ("claim", ("within", "b", "a")),
                                      ("lift", 0), ("drop", "b"), watch=None), 5)
        self.assertEqual((shelf.changes, shelf.names, shelf.claims), (5, ("a",), ()))
        shelf.undo()
        shelf.undo()
        self.assertEqual((shelf.names, shelf.claims), (("a", "b"), (("within", "b", "a"),)))

    def test_many_at_once(self):
        chance = random.Random(92)
        done = 0
        for _ in range(150):
            shelf, other = Shelf(), Shelf()
            for name in NAMES[:3]:
                shelf[name] = other[name] = some_reader(chance, 2, 2, 0.1, 0.5)
            changes = [some_change(chance) for _ in range(chance.randint(0, 5))]
            deeds = [change for change in changes if change[0] != "undo"]
            before = state(shelf)
            wanted = None
            for deed in deeds:
                try:
                    do(other, deed)
                except (Broken, InUse, UnknownName, InvalidIndex) as error:
                    wanted = error
                    break
            if wanted is None:
                self.assertEqual(shelf.do_all(*deeds), len(deeds))
                self.assertEqual(state(shelf), state(other))
                done += 1
            else:
                with self.assertRaises(type(wanted)) as caught:
                    shelf.do_all(*deeds)
                self.assertEqual(vars(caught.exception), vars(wanted))
                self.assertEqual(state(shelf), before)
        self.assertTrue(20 < done < 130)

    def test_deeds_that_are_none(self):
        shelf = Shelf()
        shelf["a"] = EVEN
        before = state(shelf)
        fine = ("put", "b", AB)
        for deed in STRANGE + ["put", ("put",), ("put", "a"), ("put", "a", AB, 1), ("drop",), ("drop", "a", 1), ("claim",),
                               ("claim", "endless", "a"), ("lift",), ("lift", 0, 0), ("undo",), ("same", "a", "a"),
                               ["drop", "a"], (None, "a"), (["put"], "a", AB), (("put",), "a"), ("Put", "a", AB)]:
            seen = []
            self.fails(InvalidDeeds, lambda: shelf.do_all(deed), index=0)
            self.fails(InvalidDeeds, lambda: shelf.do_all(fine, fine, deed, None, watch=seen.append), index=2)
            self.fails(InvalidDeeds, lambda: shelf.do_all(("drop", "none"), deed), index=1)
            self.assertEqual((state(shelf), seen), (before, []))
        for deeds, error, attributes in (
                ([fine, ("put", "A", None)], InvalidName, {"given": "A"}),
                ([fine, ("put", "c", None)], NotAReader, {"given": None}),
                ([fine, ("drop", "c"), ("put", "A", 0)], UnknownName, {"given": "c"}),
                ([fine, ("claim", ("same", "a", "b"))], Broken, {"index": 0}),
                ([fine, ("claim", None)], InvalidClaim, {"given": None}),
                ([fine, ("lift", 0)], InvalidIndex, {"given": 0}),
                ([fine, ("claim", ("endless", "b")), ("drop", "b")], InUse, {"index": 0})):
            self.fails(error, lambda: shelf.do_all(*deeds), **attributes)
            self.assertEqual(state(shelf), before)

    def test_watch(self):
        shelf = Shelf()
        seen = []

        def watch(held):
            self.assertIs(held, shelf)
            seen.append(state(held))
        shelf.do_all(("put", "a", EVEN), ("put", "b", AB), ("claim", ("endless", "b")), ("lift", 0), watch=watch)
        self.assertEqual([(told[0], told[2], told[3]) for told in seen], [
            (("a",), (), 1), (("a", "b"), (), 2), (("a", "b"), (("endless", "b"),), 3), (("a", "b"), (), 4)])
        self.assertEqual(shelf.do_all(watch=watch), 0)
        self.assertEqual(len(seen), 4)
        before = state(shelf)

        def fails(held):
            seen.append(held.changes)
            if held.changes == 6:
                raise ZeroDivisionError("of the caller")
        self.fails(ZeroDivisionError, lambda: shelf.do_all(("drop", "a"), ("drop", "b"), ("put", "c", AB), watch=fails))
        self.assertEqual((state(shelf), seen[4:]), (before, [5, 6]))
        # The one that fails is not watched.
        self.fails(UnknownName, lambda: shelf.do_all(("drop", "a"), ("drop", "a"), watch=fails), given="a")
        self.assertEqual((state(shelf), seen[6:]), (before, [5]))
        # What watches may try something, as it leaves all as it was.
        self.assertEqual(shelf.do_all(("drop", "a"), ("drop", "b"),
                                      watch=lambda held: held.tried(lambda inner: inner.undo())), 2)
        self.assertEqual((shelf.names, shelf.changes), ((), 6))


class TrialTest(Case):
    def some_shelf(self):
        shelf = Shelf()
        shelf.do_all(("put", "a", EVEN), ("put", "b", AA), ("claim", ("within", "b", "a")))
        return shelf

    def test_trials(self):
        shelf = self.some_shelf()
        before = state(shelf)
        trial = shelf.trial()
        with trial as held:
            self.assertIs(held, shelf)
            shelf.lift(0)
            shelf.drop("a")
            with trial:
                for _ in range(5):
                    shelf.undo()
                self.fails(NothingToUndo, shelf.undo)
                self.assertEqual(shelf.do_all(("put", "c", AB), ("claim", ("endless", "c"))), 2)
                with shelf.trial():
                    self.fails(InUse, lambda: shelf.do_all(("put", "d", AB), ("drop", "c")), index=0)
                    self.assertEqual(shelf.names, ("c",))
                    shelf.undo()
                self.assertEqual(shelf.claims, (("endless", "c"),))
            self.assertEqual((shelf.names, shelf.changes), (("b",), 5))
        self.assertEqual(state(shelf), before)
        with self.assertRaises(Broken):
            with shelf.trial():
                shelf["c"] = AB
                shelf["b"] = all_rows(2)
        self.assertEqual(state(shelf), before)
        for _ in range(3):
            shelf.undo()
        self.assertEqual(shelf.changes, 0)

    def test_tried(self):
        shelf = self.some_shelf()
        before = state(shelf)
        self.assertEqual(shelf.tried(lambda held: held.do_all(("put", "c", AB), ("drop", "c"))), 2)
        self.assertIs(shelf.tried(action=lambda held: held), shelf)
        self.assertIsNone(shelf.tried(lambda held: held.undo()))
        self.assertEqual(shelf.tried(lambda held: (held.undo(), held.names)), (None, ("a", "b")))
        self.fails(InvalidIndex, lambda: shelf.tried(lambda held: (held.undo(), held.lift(0))), given=0)
        self.fails(KeyError, lambda: shelf.tried(lambda held: {}[held.drop("a") if not held.claims else "a"]))
        self.assertEqual(shelf.tried(lambda held: held.tried(lambda inner: inner.undo()) or held.changes), 3)
        self.assertEqual(state(shelf), before)
