"""Writers: along the arrows of a reader they write words, and so a row for each yes row."""

from rowreaders.checks import ALPHABET, check_row, check_signs, is_row, row_order
from rowreaders.delays import first_row_unlike
from rowreaders.earliness import early_outputs
from rowreaders.errors import InvalidOutputs, NotAWriter, UnlikeSigns
from rowreaders.limits import MOST_WORD
from rowreaders.outputs import Outputs, closed_stands, image_reader, useful_part
from rowreaders.readers import Reader, check_reader, end_flags, least_of, no_rows
from rowreaders.twins import two_alike_rows


class Writer:
    """A reader, the signs of what is written, the first word, a word for each arrow, and one for each end."""

    def __init__(self, reader, signs, start, words, lasts):
        check_reader(reader)
        check_signs(signs)
        if not is_row(start, signs, MOST_WORD):
            raise InvalidOutputs(start)
        if not is_words(words, reader, signs):
            raise InvalidOutputs(words)
        if not is_output(lasts, end_flags(reader), signs):
            raise InvalidOutputs(lasts)
        self._reader = reader
        self._signs = signs
        self._start = start
        self._words = words
        self._lasts = lasts

    @property
    def reader(self):
        """The reader whose yes rows something is written for."""
        return self._reader

    @property
    def signs(self):
        """How many signs the writer writes with."""
        return self._signs

    @property
    def start(self):
        """The first word."""
        return self._start

    @property
    def words(self):
        """For each stand the tuple of the words of its arrows, None where there is no arrow."""
        return self._words

    @property
    def lasts(self):
        """For each stand its last word, None where it is no end."""
        return self._lasts

    def __eq__(self, other):
        return (isinstance(other, Writer) and self._reader == other._reader and self._signs == other._signs
                and self._start == other._start and self._words == other._words and self._lasts == other._lasts)


def is_output(value, flags, signs):
    """Whether a value is a tuple with a short word of so many signs where there is a flag, None elsewhere."""
    if not isinstance(value, tuple) or len(value) != len(flags):
        return False
    return all([is_row(word, signs, MOST_WORD) if flag else word is None for word, flag in zip(value, flags)])


def is_words(value, reader, signs):
    """Whether a value has for each stand of a reader the words of its arrows."""
    if not isinstance(value, tuple) or len(value) != len(reader):
        return False
    flags = [[goal is not None for goal in goals] for goals in reader.arrows]
    return all([is_output(words, arrows, signs) for words, arrows in zip(value, flags)])


def check_writer(writer):
    """Let only a writer pass."""
    if not isinstance(writer, Writer):
        raise NotAWriter(writer)


def check_writers(writer, other):
    """Let only two writers pass whose readers have as many signs."""
    check_writer(writer)
    check_writer(other)
    if writer.reader.signs != other.reader.signs:
        raise UnlikeSigns()


def outputs_of(writer):
    """What the writer writes, with useful stands alone; None if it writes nothing."""
    return useful_part(Outputs(writer.start, writer.reader.arrows, writer.words, writer.lasts))


def made_writer(signs, written_signs, outputs):
    """A writer whose words may be long, for rows of so many signs; None for outputs writes nothing."""
    made = Writer(no_rows(signs), written_signs, "", ((None,) * signs,), (None,))
    if outputs is not None:
        made._reader = Reader(signs, tuple(outputs.leads), tuple(closed_stands(outputs)))
        made._start = outputs.opening
        made._words = tuple(outputs.texts)
        made._lasts = tuple(outputs.closing)
    return made


def written(writer, row):
    """What the writer writes for a row, None if nothing."""
    check_writer(writer)
    check_row(writer.reader.signs, row)
    stand = 0
    words = [writer.start]
    for sign in row:
        at = ALPHABET.index(sign)
        words.append(writer.words[stand][at])
        stand = writer.reader.arrows[stand][at]
        if stand is None:
            return None
    last = writer.lasts[stand]
    return None if last is None else "".join(words) + last


def early(writer):
    """The early writer that is alike."""
    check_writer(writer)
    return early_writer(writer.reader.signs, writer.signs, outputs_of(writer))


def early_writer(signs, written_signs, outputs):
    """The early writer of what is written by outputs with useful stands alone, or by None."""
    made = None if outputs is None else early_outputs(signs, outputs)
    return made_writer(signs, written_signs, made)


def same_writers(writer, other):
    """Whether two writers are alike."""
    return first_unlike_row(writer, other) is None


def first_unlike_row(writer, other):
    """The first row for which two writers do not write the same, or None."""
    check_writers(writer, other)
    return first_row_unlike(writer.reader.signs, outputs_of(writer), outputs_of(other))


def then(writer, other):
    """The early writer that writes what the other one writes for what the one writes."""
    check_writer(writer)
    check_writer(other)
    if other.reader.signs != writer.signs:
        raise UnlikeSigns()
    return early_writer(writer.reader.signs, other.signs, behind_each_other(outputs_of(writer), outputs_of(other)))


def image_of(writer):
    """The reader of all rows that are written."""
    check_writer(writer)
    return image_reader(writer.signs, outputs_of(writer))


def origin_of(writer, reader):
    """The reader of all rows for which a yes row of this reader is written."""
    check_writer(writer)
    check_reader(reader)
    if reader.signs != writer.signs:
        raise UnlikeSigns()
    closing = ["" if end else None for end in end_flags(reader)]
    silent = useful_part(Outputs("", reader.arrows, [("",) * reader.signs] * len(reader), closing))
    outputs = behind_each_other(outputs_of(writer), silent)
    if outputs is None:
        return no_rows(writer.reader.signs)
    return least_of(writer.reader.signs, outputs.leads, closed_stands(outputs))


class Relay:
    """Outputs that read, sign by sign, what other outputs write."""

    def __init__(self, outputs):
        self.outputs = outputs
        self.known = {}

    def read(self, stand, text):
        """The stand, or None, to which a text leads from a stand, and what is written along it."""
        if stand is None or text is None:
            return None, None
        if (stand, text) not in self.known:
            self.known[stand, text] = self.go_along(stand, text)
        return self.known[stand, text]

    def go_along(self, stand, text):
        """As read, not yet known."""
        texts = []
        for sign in text:
            at = ALPHABET.index(sign)
            texts.append(self.outputs.texts[stand][at])
            stand = self.outputs.leads[stand][at]
            if stand is None:
                return None, None
        return stand, "".join(texts)

    def close(self, stand, text):
        """What is written for a last text from a stand, None if nothing."""
        goal, more = self.read(stand, text)
        last = None if goal is None else self.outputs.closing[goal]
        return None if last is None else more + last


def behind_each_other(first, second):
    """What the second outputs write for what the first ones write, with useful stands alone, or None."""
    if first is None or second is None:
        return None
    relay = Relay(second)
    begin, more = relay.read(0, first.opening)
    if begin is None:
        return None
    made = Outputs(second.opening + more, [], [], [])
    pairs = [(0, begin)]
    number = {pairs[0]: 0}
    while len(made.leads) < len(pairs):
        stand, other = pairs[len(made.leads)]
        goals = []
        texts = []
        for goal, text in zip(first.leads[stand], first.texts[stand]):
            other_goal, more = relay.read(other, None if goal is None else text)
            if other_goal is not None and (goal, other_goal) not in number:
                number[goal, other_goal] = len(pairs)
                pairs.append((goal, other_goal))
            goals.append(None if other_goal is None else number[goal, other_goal])
            texts.append(more)
        made.leads.append(goals)
        made.texts.append(texts)
        made.closing.append(relay.close(other, first.closing[stand]))
    return useful_part(made)


def two_alike(writer):
    """Any pair of unlike rows, in the order of rows, for which the writer writes the same, or None."""
    check_writer(writer)
    outputs = outputs_of(writer)
    found = None if outputs is None else two_alike_rows(writer.reader.signs, outputs)
    return None if found is None else tuple(sorted(found, key=row_order))
