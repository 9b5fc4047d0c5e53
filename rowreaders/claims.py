"""Claims of shelves: their forms, and whether they hold for readers."""

from rowreaders.checks import is_between, is_row
from rowreaders.deeds import is_groupfree
from rowreaders.errors import TooMany
from rowreaders.likeness import first_with, is_within, least, same_rows
from rowreaders.limits import MOST_ROW, MOST_SIGNS, MOST_STANDS
from rowreaders.listing import is_endless
from rowreaders.readers import led_from

ABOUT_TWO = ("same", "within", "apart")
ABOUT_ONE = ("groupfree", "endless")


def is_claim(value):
    """Whether a value has one of the forms of claims, whatever stands for their names."""
    if not isinstance(value, tuple) or not value or not isinstance(value[0], str):
        return False
    word = value[0]
    if word in ABOUT_TWO:
        return len(value) == 3
    if word in ABOUT_ONE:
        return len(value) == 2
    if word == "few":
        return len(value) == 3 and is_between(value[2], 1, MOST_STANDS)
    return word in ("yes", "no") and len(value) == 3 and is_row(value[2], MOST_SIGNS, MOST_ROW)


def names_in(claim):
    """What stands for the names of a claim."""
    return claim[1:3] if claim[0] in ABOUT_TWO else claim[1:2]


def holds(claim, readers):
    """Whether a claim holds, the readers told by their names."""
    word = claim[0]
    reader = readers[claim[1]]
    if word in ABOUT_TWO:
        other = readers[claim[2]]
        return reader.signs == other.signs and holds_for_two(word, reader, other)
    if word == "groupfree":
        return is_surely_groupfree(reader)
    if word == "endless":
        return is_endless(reader)
    if word == "few":
        return len(least(reader)) <= claim[2]
    return is_yes_row(reader, claim[2]) == (word == "yes")


def holds_for_two(word, reader, other):
    """Whether the claim with this word holds for two readers with as many signs."""
    if word == "same":
        return same_rows(reader, other)
    if word == "within":
        return is_within(reader, other)
    return first_with(reader, other, (0, 0), ((True, True),)) is None


def is_yes_row(reader, row):
    """Whether a row is a yes row of the reader, which may have fewer signs."""
    return is_row(row, reader.signs, len(row)) and led_from(reader, 0, row) in reader.ends


def is_surely_groupfree(reader):
    """Whether the reader has not too many deeds, and is groupfree."""
    try:
        return is_groupfree(reader)
    except TooMany:
        return False
