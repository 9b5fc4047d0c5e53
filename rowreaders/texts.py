"""Readers as texts, and texts as readers."""

from rowreaders.checks import is_arrows, is_between, number_in
from rowreaders.errors import InvalidText
from rowreaders.limits import MOST_SIGNS
from rowreaders.readers import Reader, check_reader, end_flags

NOWHERE = "-"
END = "!"


def reader_text(reader):
    """The text of a reader."""
    check_reader(reader)
    parts = [f"{reader.signs}"]
    for goals, is_end in zip(reader.arrows, end_flags(reader)):
        words = ".".join([NOWHERE if goal is None else f"{goal}" for goal in goals])
        parts.append(words + END if is_end else words)
    return "/".join(parts)


def reader_in(text):
    """The reader with a text."""
    made = parsed(text) if isinstance(text, str) else None
    if made is None:
        raise InvalidText(text)
    return made


def parsed(text):
    """The reader with a text, None if there is none."""
    head, *parts = text.split("/")
    signs = number_in(head)
    if not is_between(signs, 1, MOST_SIGNS):
        return None
    arrows = tuple([goals_in(part.removesuffix(END)) for part in parts])
    # What is neither a number nor nowhere is False, which is no stand.
    if not is_arrows(arrows, signs):
        return None
    return Reader(signs, arrows, tuple([at for at in range(len(parts)) if parts[at].endswith(END)]))


def goals_in(text):
    """The goals that a text tells; False for all that is none."""
    return tuple([None if word == NOWHERE else goal_in(word) for word in text.split(".")])


def goal_in(word):
    """The number of a goal, False if it is none."""
    number = number_in(word)
    return False if number is None else number
