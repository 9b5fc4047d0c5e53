"""Books: words put for the signs of rows, whether they agree, and whether what comes out can be read back."""

from rowreaders.checks import ALPHABET, check_row, check_signs, is_row, row_order
from rowreaders.delays import first_row_unlike
from rowreaders.errors import InvalidBook
from rowreaders.likeness import first_rows, least
from rowreaders.limits import MOST_SIGNS, MOST_WORD
from rowreaders.minimal import links_back, links_of
from rowreaders.outputs import Outputs, image_reader, useful_part
from rowreaders.readers import check_reader, end_flags, led_from, least_of
from rowreaders.twins import two_alike_rows


def check_book(book, signs, written):
    """Let only a book pass with a word of so many signs, the latter ones, for each of the former ones."""
    if not is_book(book, signs, written):
        raise InvalidBook(book)


def is_book(value, signs, written):
    """Whether a value has a word of so many signs, the latter ones, for each of the former ones."""
    if not isinstance(value, tuple) or len(value) != signs:
        return False
    return all([is_row(word, written, MOST_WORD) for word in value])


def by_book(reader, book):
    """What is written by a book for the yes rows, or None if there are none."""
    made = least(reader)
    closing = ["" if end else None for end in end_flags(made)]
    return useful_part(Outputs("", made.arrows, [book] * len(made), closing))


def version(reader, book, row):
    """The words of the signs of a row, one behind the other."""
    check_reader(reader)
    check_book(book, reader.signs, MOST_SIGNS)
    check_row(reader.signs, row)
    return "".join([book[ALPHABET.index(sign)] for sign in row])


def image(reader, size, book):
    """The reader, of so many signs, of the versions of all yes rows."""
    check_reader(reader)
    check_signs(size)
    check_book(book, reader.signs, size)
    return image_reader(size, by_book(reader, book))


def origin(reader, size, book):
    """The reader, of so many signs, of all rows whose version is a yes row."""
    check_reader(reader)
    check_signs(size)
    check_book(book, size, reader.signs)
    arrows = [[led_from(reader, stand, word) for word in book] for stand in range(len(reader))]
    return least_of(size, arrows, reader.ends)


def agree(reader, book, second):
    """Whether each yes row has the same version by both books."""
    return first_difference(reader, book, second) is None


def first_difference(reader, book, second):
    """The first yes row with unlike versions, or None."""
    check_reader(reader)
    check_book(book, reader.signs, MOST_SIGNS)
    check_book(second, reader.signs, MOST_SIGNS)
    return first_row_unlike(reader.signs, by_book(reader, book), by_book(reader, second))


def few_rows(reader):
    """Yes rows, in the order of rows, such that books agree if they give the same versions of these."""
    check_reader(reader)
    made = least(reader)
    if not made.ends:
        return ()
    fronts, rests = first_rows(made), rests_of(made)
    rows = [rests[0]]
    for stand in range(len(made)):
        for sign in range(made.signs):
            goal = made.arrows[stand][sign]
            if goal is not None:
                rows.append(fronts[stand] + ALPHABET[sign] + rests[goal])
    return tuple(sorted(list({row: True for row in rows}), key=row_order))


def rests_of(made):
    """For each stand of a least reader the first row to an end."""
    rests = {end: "" for end in made.ends}
    back = links_back(links_of(made.arrows))
    # Stands come by the lengths of these rows, so all shorter ones are known when a row is made of them.
    waiting = list(made.ends)
    at = 0
    while at < len(waiting):
        for stand in back[waiting[at]]:
            if stand not in rests:
                rests[stand] = first_rest(made.arrows[stand], rests, len(rests[waiting[at]]))
                waiting.append(stand)
        at += 1
    return rests


def first_rest(goals, rests, length):
    """The first row by arrows to these goals, behind which a row of this length leads to an end."""
    for sign in range(len(goals)):
        if goals[sign] in rests and len(rests[goals[sign]]) == length:
            return ALPHABET[sign] + rests[goals[sign]]
    return None


def is_read_back(reader, book):
    """Whether no two yes rows have the same version."""
    return clash(reader, book) is None


def clash(reader, book):
    """Any pair of two different yes rows that have the same version, or None."""
    check_reader(reader)
    check_book(book, reader.signs, MOST_SIGNS)
    outputs = by_book(reader, book)
    return None if outputs is None else two_alike_rows(reader.signs, outputs)
