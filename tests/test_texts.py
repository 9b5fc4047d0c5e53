"""rowreaders.texts."""

import random

from helpers import AB, EVEN, NOT_READERS, STRANGE, Case, cycle, every_reader, some_reader

from rowreaders import texts
from rowreaders.errors import InvalidText, NotAReader
from rowreaders.readers import Reader, all_rows, no_rows
from rowreaders.texts import reader_in, reader_text


def plain_text(reader):
    text = str(reader.signs)
    for stand in range(len(reader)):
        text += "/" + ".".join("-" if goal is None else str(goal) for goal in reader.arrows[stand])
        text += "!" * (stand in reader.ends)
    return text


NO_TEXTS = """2 2/ /0 0/ 0/- 9/0.0.0.0.0.0.0.0.0 1 1/ 1// 1/0/ /1/0 1/0// 1//0 1/0! 1/-/ 2/0 2/0. 2/.0 2/0.0.0 2/0..0 2/0.0.
    2/.0.0 1/1 2/0.1 2/2.0/0.0 1/00 1/01 1/-0 1/-1 1/+0 1/0x0 1/0!! 1/!0 1/! 1/!0! 1/0!/ 1/--  1/-- 1/None 01/0 +1/0
    1.0/0 -1/0 1/0/0/ 1/0,0 a/0 1/a 1/A 1/0\\ 1:0 1/1/2/3/4 11/0 10/0 1/1_0 1_/0 1/0?""".split()
NO_TEXTS = [text for text in NO_TEXTS if text != "1/0!"] + [
    "", " ", "1/0 ", " 1/0", "1/ 0", "1 /0", "1/0\n", "\n1/0", "1/0\t", "1/0\r", "1/\uff10", "\u0661/0", "1/\u0660",
    "1/\u00b2", "\u00b9/0", "1/0.", "1/" + "0/" * 200 + "0", "1/" + "9" * 60, "9" * 3000 + "/0", "/", "//", "!", "-", ".",
    "2/1.0!/0.2", "1/0\x00"]


class TextsTest(Case):
    def test_both_ways(self):
        chance = random.Random(61)
        readers = list(every_reader(1, 2)) + [some_reader(chance, signs, stands, nowhere) for signs in range(1, 9)
                                              for stands in (1, 2, 9, 10, 11, 99, 200) for nowhere in (0, 0.3, 1)]
        for reader in readers + [EVEN, AB, all_rows(8), no_rows(8), cycle(200, 8)]:
            text = reader_text(reader)
            self.assertEqual(text, plain_text(reader))
            self.assertEqual(reader_in(text), reader)
            self.assertEqual(reader_text(reader_in(text)), text)

    def test_edges(self):
        self.assertEqual(self.named(reader_text, reader=EVEN), "2/1.0!/0.1")
        self.assertEqual(reader_text(AB), "2/1.-!/-.0")
        self.assertEqual(self.named(reader_in, text="1/0!"), all_rows(1))
        self.assertEqual(reader_in("1/-"), no_rows(1))
        self.assertEqual(reader_in("8/-.-.-.-.-.-.-.0!"), Reader(8, ((None,) * 7 + (0,),), (0,)))
        self.assertEqual(reader_in("1/0" + "/199" * 199), Reader(1, ((0,),) + ((199,),) * 199, ()))

    def test_wrong_values(self):
        self.fails_for_all(InvalidText, reader_in, NO_TEXTS)
        self.fails_for_all(InvalidText, reader_in, STRANGE + [EVEN, 1, b"1/0", ("1/0",), ["1/0"]])
        # Whatever sign is put into a text, or left out, what comes out has just this text, if there is any.
        for text in ("2/1.0!/0.1", "1/10/1/2/3/4/5/6/7/8/9!/-", "3/0.-.-!"):
            for at in range(len(text) + 1):
                for more in ["", *"0129-!/. +_ab\n"]:
                    for rest in (text[at:], text[at + 1:]):
                        self.assert_text_or_none(text[:at] + more + rest)

    def assert_text_or_none(self, text):
        try:
            made = reader_in(text)
        except InvalidText as error:
            self.assertIs(error.given, text)
        else:
            self.assertEqual(plain_text(made), text)

    def test_not_a_reader(self):
        self.fails_for_all(NotAReader, reader_text, NOT_READERS)
        for name in ("reader_text", "reader_in"):
            self.assertEqual(getattr(texts, name).__module__, "rowreaders.texts")
