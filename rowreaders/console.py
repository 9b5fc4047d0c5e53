"""The console: lines that tell what to do with the readers and claims of a shelf."""

from rowreaders.checks import is_between, is_row, number_in
from rowreaders.claims import ABOUT_ONE, ABOUT_TWO
from rowreaders.errors import InvalidLine, InvalidRow, InvalidText
from rowreaders.likeness import least
from rowreaders.limits import MOST_ROW, MOST_SIGNS, MOST_STANDS
from rowreaders.listing import count_of
from rowreaders.making import again, behind, both, either, other_rows
from rowreaders.readers import first_yes, led_from
from rowreaders.shelves import Shelf, is_name
from rowreaders.texts import reader_in, reader_text

EMPTY = "-"
MADE_OF_ONE = ("other", "again", "least")
MADE_OF_TWO = ("both", "either", "behind")


class Console:
    """Carries out lines on a shelf."""

    def __init__(self):
        self._shelf = Shelf()

    @property
    def shelf(self):
        """The shelf."""
        return self._shelf

    def say(self, line):
        """Carry out a line and return the answer."""
        words = line.split(" ") if isinstance(line, str) else [""]
        answer = self.answer_to(words)
        if answer is None:
            raise InvalidLine(line)
        return answer

    def answer_to(self, words):
        """Carry out the line of these words and return the answer, None if there is no such line."""
        if words == ["undo"]:
            self._shelf.undo()
            return "ok"
        if words[0] == "drop" and len(words) == 2 and is_name(words[1]):
            self._shelf.drop(words[1])
            return "ok"
        if len(words) == 1 or not is_name(words[0]):
            return None
        if words[1] == "=":
            return self.put(words[0], words[2:])
        claim = claim_in(words)
        if claim is not None:
            self._shelf.claim(claim)
            return "ok"
        return self.tell(words)

    def put(self, name, words):
        """Put the reader that some words tell under a name, and return its text; None if they tell none."""
        made = self.made_by(words)
        if made is None:
            return None
        self._shelf[name] = made
        return reader_text(made)

    def made_by(self, words):
        """The reader that some words tell, or None."""
        if len(words) == 1:
            return text_reader(words[0])
        if len(words) == 2 and words[0] in MADE_OF_ONE and is_name(words[1]):
            return made_of_one(words[0], self._shelf[words[1]])
        if len(words) == 3 and words[1] in MADE_OF_TWO and is_name(words[0]) and is_name(words[2]):
            return made_of_two(words[1], self._shelf[words[0]], self._shelf[words[2]])
        return None

    def tell(self, words):
        """What a line asks of a reader, or None."""
        name, word = words[:2]
        if word == "first" and len(words) == 2:
            row = first_yes(self._shelf[name])
            return "none" if row is None else row or EMPTY
        if word == "stands" and len(words) == 2:
            return f"{len(least(self._shelf[name]))}"
        if word == "count" and len(words) == 3 and is_between(number_in(words[2]), 0, MOST_ROW):
            return f"{count_of(self._shelf[name], number_in(words[2]))}"
        if word == "reads" and len(words) == 3 and row_in(words[2]) is not None:
            return self.read(name, row_in(words[2]))
        return None

    def read(self, name, row):
        """What a reader says of a row."""
        reader = self._shelf[name]
        if not is_row(row, reader.signs, MOST_ROW):
            raise InvalidRow(row)
        return "yes" if led_from(reader, 0, row) in reader.ends else "no"


def text_reader(text):
    """The reader with a text, or None."""
    try:
        return reader_in(text)
    except InvalidText:
        return None


def made_of_one(word, reader):
    """The reader that is made of one by a word."""
    if word == "other":
        return other_rows(reader)
    return again(reader) if word == "again" else least(reader)


def made_of_two(word, reader, other):
    """The reader that is made of two by a word."""
    if word == "both":
        return both(reader, other)
    return either(reader, other) if word == "either" else behind(reader, other)


def row_in(word):
    """The row that a word tells, or None."""
    if word == EMPTY:
        return ""
    return word if word and is_row(word, MOST_SIGNS, MOST_ROW) else None


def claim_in(words):
    """The claim that two words or more tell, or None."""
    name, word = words[:2]
    if len(words) == 2 and word in ABOUT_ONE:
        return word, name
    if len(words) != 3:
        return None
    if word in ABOUT_TWO and is_name(words[2]):
        return word, name, words[2]
    if word == "few" and is_between(number_in(words[2]), 1, MOST_STANDS):
        return word, name, number_in(words[2])
    if word in ("yes", "no") and row_in(words[2]) is not None:
        return word, name, row_in(words[2])
    return None
