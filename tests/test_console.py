"""rowreaders.console."""

import random
import re

from helpers import AB, EVEN, LETTERS, STRANGE, Case, chain, cycle, goes, is_yes, some_reader, yes_rows

from rowreaders import console, making
from rowreaders.console import Console
from rowreaders.errors import Broken, InUse, InvalidLine, InvalidRow, NothingToUndo, TooMany, UnknownName, UnlikeSigns
from rowreaders.likeness import least
from rowreaders.readers import Reader, no_rows
from rowreaders.shelves import Shelf
from rowreaders.texts import reader_text

NAME = "([a-z]{1,8})"
ROW = "(-|[a-h]{1,200})"
TEXT = r"([1-8](?:/(?:-|0|[1-9][0-9]*)(?:\.(?:-|0|[1-9][0-9]*))*!?)+)"
FORMS = {
    "drop": f"drop {NAME}", "undo": "undo", "text": f"{NAME} = {TEXT}",
    "two": f"{NAME} = {NAME} (both|either|behind) {NAME}", "one": f"{NAME} = (other|again|least) {NAME}",
    "pair": f"{NAME} (same|within|apart) {NAME}", "alone": f"{NAME} (groupfree|endless)",
    "few": f"{NAME} (few) ([1-9]|[1-9][0-9]|1[0-9][0-9]|200)", "row": f"{NAME} (yes|no) {ROW}",
    "reads": f"{NAME} reads {ROW}", "first": f"{NAME} first", "stands": f"{NAME} stands",
    "count": f"{NAME} count (0|[1-9]|[1-9][0-9]|1[0-9][0-9]|200)"}
NAMES = ["a", "e", "ab", "drop", "undo", "first", "stands", "other", "again", "least", "both", "either", "behind", "yes",
         "no", "few", "count", "reads", "same", "apart", "within", "endless", "zzzzzzzz"]
NO_LINES = [
    "", " ", "undo ", " undo", "undo undo undo", "Undo", "undo\n", "e", "drop", "drop ", "drop  e", "drop e ", "drop e f",
    "drop E", "drop -", "drop abcdefghi", "drop e1", "e  stands", "e stands ", " e stands", "e stands\n", "e\tstands",
    "E stands", "e Stands", "e stand", "e stands e", "e first e", "e firs", "e = ", "e =", "e  = e", "= 1/0", "e=1/0",
    "e = 1/0 ", "e =  1/0", "e = 1/0!!", "e = 0/", "e = 9/0.0.0.0.0.0.0.0.0", "e = 1/1", "e = 1/00", "e = 2/0", "e = e",
    "e = 1/-!/", "e = both e", "e = e both", "e = e both e e", "e = e and e", "e = other", "e = other e e", "e = e other",
    "e = other other e", "e = e again", "e = again", "e = least", "e = 1/0 both 1/0", "e = other 1/0", "e = e both E",
    "e = E both e", "e = other E", "E = 1/0", "abcdefghi = 1/0", "e same", "e same e e", "e same E", "same e", "e within",
    "e apart -", "e groupfree e", "e endless e", "endless e", "e few", "e few 0", "e few 201", "e few 02", "e few -1",
    "e few +1", "e few two", "e few 2 2", "e few 10000000000000000000000000000000", "e few 1_0", "e few \u0661", "e few 2.0",
    "e yes", "e yes ", "e yes i", "e yes A", "e yes --", "e yes a-", "e yes a b", "e yes " + "a" * 201, "e yes 'a'", "e no",
    "e no ", "e no i", "e no h h", "e no " + "h" * 201, "e no \uff41", "e reads", "e reads ", "e reads i", "e reads -a",
    "e reads a a", "e reads " + "b" * 201, "e count", "e count ", "e count 201", "e count -", "e count 00", "e count 007",
    "e count -1", "e count a", "e count 1 1", "e count 1" + "0" * 60, "e is e", "e outside e", "e drop e", "put e 1/0",
    "e undo", "lift 0", "names", "claims", "e mirrored", "e = mirrored e", "e =1/0 a", "\u00e4 first", "e first\n",
    "e = 2/1.0!/0.1\n", "e = \n2/1.0!/0.1"]


def told(console):
    shelf = console.shelf
    return shelf.names, [shelf[name] for name in shelf.names], shelf.claims, shelf.changes


def row_of(word):
    return "" if word == "-" else word


def word_of(row):
    return row or "-"


def parsed(line):
    """The form of a line and its words, or None twice."""
    for form, pattern in FORMS.items():
        found = re.fullmatch(pattern, line)
        if found:
            return form, found.groups()
    return None, None


def reader_of(text):
    """The reader with a text, written as one; None if it is none after all."""
    signs, *parts = text.split("/")
    arrows = tuple(tuple(None if word == "-" else int(word) for word in part.strip("!").split(".")) for part in parts)
    try:
        return Reader(int(signs), arrows, tuple(at for at, part in enumerate(parts) if part.endswith("!")))
    except ValueError:
        return None


class OwnConsole:
    """Lines carried out on a shelf by its methods: an answer, or the name of an error."""

    def __init__(self):
        self.shelf = Shelf()

    def say(self, line):
        form, words = parsed(line)
        if form is None or form == "text" and reader_of(words[1]) is None:
            return InvalidLine
        names = [words[0]] if form in ("drop", "alone", "few", "row", "reads", "first", "stands", "count") else {
            "undo": [], "text": [], "two": [words[1], words[3]] if form == "two" else [],
            "one": words[2:3], "pair": [words[0], words[-1]] if form == "pair" else []}[form]
        for name in names:
            if name not in self.shelf:
                return UnknownName
        try:
            return getattr(self, form)(*words)
        except (UnlikeSigns, TooMany, Broken, InUse, NothingToUndo, InvalidRow) as error:
            return type(error)

    def put(self, name, reader):
        self.shelf[name] = reader
        return reader_text(reader)

    def drop(self, name):
        self.shelf.drop(name)
        return "ok"

    def undo(self):
        self.shelf.undo()
        return "ok"

    def text(self, name, text):
        self.put(name, reader_of(text))
        return text

    def two(self, name, one, word, other):
        return self.put(name, getattr(making, word)(self.shelf[one], self.shelf[other]))

    def one(self, name, word, other):
        reader = self.shelf[other]
        return self.put(name, least(reader) if word == "least" else making.other_rows(reader) if word == "other"
                        else making.again(reader))

    def pair(self, one, word, other):
        self.shelf.claim((word, one, other))
        return "ok"

    def alone(self, name, word):
        self.shelf.claim((word, name))
        return "ok"

    def few(self, name, word, many):
        self.shelf.claim((word, name, int(many)))
        return "ok"

    def row(self, name, word, row):
        self.shelf.claim((word, name, row_of(row)))
        return "ok"

    def reads(self, name, row):
        reader = self.shelf[name]
        if set(row_of(row)) - set(LETTERS[:reader.signs]):
            return InvalidRow
        return "yes" if is_yes(reader, row_of(row)) else "no"

    def first(self, name):
        reader = self.shelf[name]
        rows = yes_rows(reader, min(5, len(reader)))
        return word_of(rows[0]) if rows else "none"

    def stands(self, name):
        return str(len(least(self.shelf[name])))

    def count(self, name, length):
        reader = self.shelf[name]
        many = {0: 1}
        for _ in range(int(length)):
            more = {}
            for stand, number in many.items():
                for goal in reader.arrows[stand]:
                    more[goal] = more.get(goal, 0) + number
            more.pop(None, None)
            many = more
        return str(sum(many.get(end, 0) for end in reader.ends))


def some_line(chance, names):
    """A line by chance, of each form."""
    form = chance.choice(["text"] * 3 + ["two", "one", "pair", "pair", "alone", "few", "row", "row", "reads", "first",
                                         "stands", "count", "drop", "undo"])
    one, two, three = [chance.choice(names) for _ in range(3)]
    row = word_of("".join(chance.choice("aaabbc") for _ in range(chance.randint(0, 4))))
    if form == "text":
        return f"{one} = {reader_text(some_reader(chance, chance.choice([1, 2, 2, 2]), chance.randint(1, 3)))}"
    return {"two": f"{one} = {two} {chance.choice(['both', 'either', 'behind'])} {three}",
            "one": f"{one} = {chance.choice(['other', 'again', 'least'])} {two}",
            "pair": f"{one} {chance.choice(['same', 'within', 'apart'])} {two}",
            "alone": f"{one} {chance.choice(['groupfree', 'endless'])}", "few": f"{one} few {chance.randint(1, 3)}",
            "row": f"{one} {chance.choice(['yes', 'no'])} {row}", "reads": f"{one} reads {row}", "first": f"{one} first",
            "stands": f"{one} stands", "count": f"{one} count {chance.choice([0, 1, 2, 3, 7, 200])}",
            "drop": f"drop {one}", "undo": "undo"}[form]


class ConsoleCase(Case):
    def with_lines(self, *lines):
        made = Console()
        for line in lines:
            made.say(line)
        return made

    def some_console(self):
        return self.with_lines("e = 2/1.0!/0.1", "b = 2/0.1/0.1!", "aa = 2/1.-!/0.-", "one = 1/0!", "aa within e", "e few 2")

    def assert_kept(self, made, line, error, **attributes):
        before = told(made)
        with self.assertRaises(error) as caught:
            made.say(line)
        self.assertIs(type(caught.exception), error)
        for name, value in attributes.items():
            self.assertEqual(getattr(caught.exception, name), value)
        self.assertEqual(told(made), before)


class LinesTest(ConsoleCase):
    def test_many_lines(self):
        chance = random.Random(301)
        seen = {}
        for _ in range(60):
            made, own = Console(), OwnConsole()
            names = chance.sample(NAMES, 4)
            for _ in range(60):
                line = some_line(chance, names)
                if chance.random() < 0.1:
                    at = chance.randint(0, len(line))
                    line = line[:at] + chance.choice(["", " ", "a", "0", "-", "!"]) + line[at + chance.randint(0, 1):]
                self.assert_said(made, own, line, seen)
        answered = {form for form, is_told in seen if is_told}
        self.assertEqual(answered, set(FORMS))
        errors = {kind for _, is_told in seen if not is_told for kind in seen[_, is_told]}
        self.assertEqual(errors, {InvalidLine, UnknownName, UnlikeSigns, Broken, InUse, NothingToUndo, InvalidRow})

    def assert_said(self, made, own, line, seen):
        before, wanted = told(made), own.say(line)
        form = parsed(line)[0]
        if isinstance(wanted, str):
            answer = made.say(line)
            self.assertEqual(answer, wanted, line)
            self.assertIs(type(answer), str)
            seen[form, True] = True
        else:
            with self.assertRaises(wanted) as caught:
                made.say(line)
            self.assertIs(type(caught.exception), wanted, line)
            self.assertEqual(told(made), before)
            seen.setdefault((form, False), set()).add(wanted)
        self.assertEqual(told(made), told(own))

    def test_each_form(self):
        made = Console()
        self.assertIsInstance(made.shelf, Shelf)
        self.assertEqual(len(made.shelf), 0)
        for line, answer in (
                ("e = 2/1.0!/0.1", "2/1.0!/0.1"), ("ab = 2/1.-!/-.0", "2/1.-!/-.0"), ("b = 2/0.1/0.1!", "2/0.1/0.1!"),
                ("c = e both b", "2/1.2/0.1/1.2!"), ("c count 3", "2"), ("c within e", "ok"), ("c first", "b"),
                ("c stands", "3"), ("d = e either b", "2/1.0!/0.2/0.2!"), ("d first", "-"), ("e within d", "ok"),
                ("f = ab behind ab", "2/1.-!/-.0"), ("f same ab", "ok"), ("g = other e", "2/1.0/0.1!"), ("g apart e", "ok"),
                ("h = 1/1/2!/-", "1/1/2!/-"), ("h = least h", "1/1/-!"), ("h = again h", "1/0!"), ("h endless", "ok"),
                ("n = 3/-.-.-", "3/-.-.-"), ("n first", "none"), ("n stands", "1"), ("n count 0", "0"), ("n groupfree", "ok"),
                ("e yes aba", "ok"), ("e yes -", "ok"), ("e no a", "ok"), ("e no c", "ok"), ("e no hhh", "ok"),
                ("e few 200", "ok"), ("e few 2", "ok"), ("e reads aba", "yes"), ("e reads -", "yes"), ("e reads ab", "no"),
                ("n reads -", "no"), ("e count 0", "1"), ("e count 200", str(2 ** 199)), ("e count 1", "1"), ("undo", "ok"),
                ("drop n", None), ("b reads " + "ab" * 100, "yes"), ("b yes " + "ab" * 100, "ok")):
            if answer is None:
                self.assert_kept(made, line, InUse, index=5)
            else:
                self.assertEqual(made.say(line), answer, line)
        self.assertEqual(made.shelf.names, ("ab", "b", "c", "d", "e", "f", "g", "h", "n"))
        self.assertEqual(made.shelf.claims, (
            ("within", "c", "e"), ("within", "e", "d"), ("same", "f", "ab"), ("apart", "g", "e"), ("endless", "h"),
            ("groupfree", "n"), ("yes", "e", "aba"), ("yes", "e", ""), ("no", "e", "a"), ("no", "e", "c"), ("no", "e", "hhh"),
            ("few", "e", 200), ("yes", "b", "ab" * 100)))
        self.assertEqual(made.shelf["e"], EVEN)
        self.assertEqual(made.shelf["ab"], AB)

    def test_great_readers(self):
        made = Console()
        for name, reader in (("ring", cycle(200, 8)), ("line", chain((199,), 3))):
            self.assertEqual(made.say(f"{name} = {reader_text(reader)}"), reader_text(reader))
            self.assertEqual(made.shelf[name], reader)
            self.assertEqual(made.say(f"{name} stands"), "200")
            self.assertEqual(made.say(f"{name} few 200"), "ok")
            self.assert_kept(made, f"{name} few 199", Broken, index=len(made.shelf.claims))
        self.assertEqual(made.say("ring count 200"), str(8 ** 200))
        self.assertEqual(made.say("line first"), "a" * 199)
        self.assertEqual(goes(cycle(200), 0, "a" * 200), 0)
        self.assert_kept(made, "x = line behind line", TooMany, limit=200)
        self.assert_kept(made, "ring = other line", TooMany, limit=200)
        made.say("ninety = " + reader_text(cycle(199, 8)))
        self.assert_kept(made, "ninety = ninety both ring", TooMany, limit=200)

    def test_names_that_are_words(self):
        made = Console()
        for name in NAMES:
            self.assertEqual(made.say(f"{name} = 2/1.0!/0.1"), "2/1.0!/0.1")
        for line, answer in (("drop stands", "ok"), ("stands = 1/0!", "1/0!"), ("stands stands", "1"), ("first first", "-"),
                             ("undo first", "-"), ("undo stands", "2"), ("undo undo", None), ("drop first", "ok"),
                             ("first = other other", "2/1.0/0.1!"), ("again = again again", "2/1.0!/0.1"),
                             ("least = least least", "2/1.0!/0.1"), ("both = both both both", "2/1.0!/0.1"),
                             ("behind = other behind again", "2/1.0!/0.1"), ("yes yes -", "ok"), ("no no a", "ok"),
                             ("either = either either either", "2/1.0!/0.1"), ("few few 2", "ok"), ("count count 3", "4"),
                             ("reads reads a", "no"), ("same same same", "ok"), ("within within within", "ok"),
                             ("apart apart first", "ok"), ("endless endless", "ok"), ("drop same a", "ok"),
                             ("drop few 2", "ok"), ("drop yes -", "ok"), ("drop = other drop", None), ("drop reads b", "yes"),
                             ("drop count 2", "2"), ("other reads -", "yes"), ("first reads -", "no"), ("undo = 1/0", "1/0"),
                             ("undo first", "none"), ("undo", "ok"), ("undo first", "-"), ("drop undo", "ok")):
            if answer is None:
                self.assert_kept(made, line, InvalidLine if line == "undo undo" else Broken)
            else:
                self.assertEqual(made.say(line), answer, line)
        self.assert_kept(made, "undo first", UnknownName, given="undo")
        self.assert_kept(made, "drop endless", InUse, index=6)
        # No name has nine letters, so this one is a claim.
        self.assert_kept(made, "drop groupfree", Broken, index=10)
        made = self.with_lines("drop = 1/0!", "drop groupfree")
        self.assertEqual(made.shelf.claims, (("groupfree", "drop"),))


class ErrorsTest(ConsoleCase):
    def test_lines_that_are_none(self):
        for made in (self.some_console(), Console()):
            before = told(made)
            self.fails_for_all(InvalidLine, made.say, NO_LINES)
            self.fails_for_all(InvalidLine, made.say, STRANGE + [b"undo", ("undo",), ["undo"], 0, EVEN, "e first e first"])
            self.assertEqual(told(made), before)

    def test_unknown_names(self):
        made = self.some_console()
        for line, name in (("drop x", "x"), ("x = y both z", "y"), ("x = e both z", "z"), ("x = z either z", "z"),
                           ("x = z behind e", "z"), ("x = other x", "x"), ("x = again y", "y"), ("e = least x", "x"),
                           ("x same e", "x"), ("e same x", "x"), ("x within y", "x"), ("y apart x", "y"), ("x groupfree", "x"),
                           ("x endless", "x"), ("x few 1", "x"), ("x yes a", "x"), ("x no h", "x"), ("x reads -", "x"),
                           ("x reads h", "x"), ("x first", "x"), ("x count 0", "x"), ("x stands", "x"), ("one = z both e", "z"),
                           ("one = one both z", "z"), ("one same z", "z"), ("undo first", "undo")):
            self.assert_kept(made, line, UnknownName, given=name)
        self.assertEqual(made.say("x = other e"), "2/1.0/0.1!")

    def test_errors_of_what_is_done(self):
        made = self.some_console()
        for line, error, attributes in (
                ("x = e both one", UnlikeSigns, {}), ("x = one either e", UnlikeSigns, {}), ("e = one behind b", UnlikeSigns, {}),
                ("e = other e", Broken, {"index": 0}), ("e = 2/1.-/-.-!", Broken, {"index": 0}), ("aa = 1/0!", Broken, {"index": 0}),
                ("e = 2/1.2!/0.2/3.3!/3.3", Broken, {"index": 1}), ("e = 2/1.1!/2.2!/0.0", Broken, {"index": 0}),
                ("e same b", Broken, {"index": 2}), ("e same one", Broken, {"index": 2}), ("aa apart e", Broken, {"index": 2}),
                ("e groupfree", Broken, {"index": 2}), ("e few 1", Broken, {"index": 2}), ("e yes a", Broken, {"index": 2}),
                ("e yes c", Broken, {"index": 2}), ("e no aa", Broken, {"index": 2}), ("e no -", Broken, {"index": 2}),
                ("drop e", InUse, {"index": 0}), ("drop aa", InUse, {"index": 0}),
                ("e reads c", InvalidRow, {"given": "c"}), ("one reads ab", InvalidRow, {"given": "ab"}),
                ("e reads " + "a" * 199 + "h", InvalidRow, {"given": "a" * 199 + "h"})):
            self.assert_kept(made, line, error, **attributes)
        self.assert_kept(Console(), "undo", NothingToUndo)

    def test_undo(self):
        made = Console()
        states = [told(made)]
        for line in ("e = 2/1.0!/0.1", "e = 2/1.0!/0.1", "x = other e", "e same e", "x apart e", "x = least x", "y = again x",
                     "drop y"):
            made.say(line)
            states.append(told(made))
            self.assertEqual(made.shelf.changes, len(states) - 1)
        for line in ("e first", "e reads a", "e count 3", "e stands"):
            made.say(line)
        self.assertEqual(told(made), states[-1])
        for state in states[-2::-1]:
            self.assertEqual(made.say("undo"), "ok")
            self.assertEqual(told(made), state)
        self.assert_kept(made, "undo", NothingToUndo)

    def test_led_by_the_shelf_too(self):
        made = self.some_console()
        made.shelf["z"] = no_rows(2)
        self.assertEqual(made.say("z within e"), "ok")
        made.shelf.lift(0)
        self.assertEqual(made.say("drop aa"), "ok")
        self.assertEqual(made.shelf.claims, (("few", "e", 2), ("within", "z", "e")))
        made.shelf.undo()
        self.assertEqual(made.say("aa first"), "-")
        self.assertEqual(Console().shelf.names, ())

    def test_by_place_and_by_name(self):
        made = Console()
        self.assertEqual(made.say(line="a = 1/0!"), "1/0!")
        self.assertEqual(made.say("a first"), made.say(line="a first"))
        self.assertTrue(made)
        self.assertEqual(console.Console.__module__, "rowreaders.console")
        for name in ("say", "shelf"):
            self.assertIn(name, vars(Console))
