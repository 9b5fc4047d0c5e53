"""Weighers: they give each row a value, by tables of integers."""

from rowreaders.checks import ALPHABET, check_length, check_row, check_signs, is_between
from rowreaders.crowds import going_round
from rowreaders.errors import InvalidSteps, InvalidWeights, NotAWeigher, TooMany, UnlikeSigns
from rowreaders.guessers import check_guesser
from rowreaders.likeness import least
from rowreaders.limits import MOST_SIZE, MOST_WEIGHED
from rowreaders.readers import check_reader, end_flags
from rowreaders.spans import dot, new_rows, rank
from rowreaders.ways import Links, passed_on, useful_stands, with_empty

MOST_WEIGHT = 1000


class Weigher:
    """Some signs, the integers to begin with, for each sign a table, and the goals."""

    def __init__(self, signs, begins, tables, goals):
        check_signs(signs)
        if not isinstance(begins, tuple) or not 1 <= len(begins) <= MOST_SIZE or not is_weights(begins, len(begins)):
            raise InvalidWeights(begins)
        if not isinstance(tables, tuple) or len(tables) != signs:
            raise InvalidWeights(tables)
        if not all([is_table(table, len(begins)) for table in tables]):
            raise InvalidWeights(tables)
        if not is_weights(goals, len(begins)):
            raise InvalidWeights(goals)
        self._signs = signs
        self._begins = begins
        self._tables = tables
        self._goals = goals

    @property
    def signs(self):
        """How many signs the weigher has."""
        return self._signs

    @property
    def size(self):
        """How many integers it has at a time."""
        return len(self._begins)

    @property
    def begins(self):
        """The integers with which it begins."""
        return self._begins

    @property
    def tables(self):
        """For each sign its table, as a tuple of rows."""
        return self._tables

    @property
    def goals(self):
        """The integers by which the numbers at last are multiplied."""
        return self._goals

    def __eq__(self, other):
        return (isinstance(other, Weigher) and self._signs == other._signs and self._begins == other._begins
                and self._tables == other._tables and self._goals == other._goals)


def is_weights(value, size):
    """Whether a value is a tuple of so many integers that are not too great."""
    if not isinstance(value, tuple) or len(value) != size:
        return False
    return all([is_between(number, -MOST_WEIGHT, MOST_WEIGHT) for number in value])


def is_table(value, size):
    """Whether a value is a tuple of as many rows of so many integers that are not too great."""
    if not isinstance(value, tuple) or len(value) != size:
        return False
    return all([is_weights(row, size) for row in value])


def made_weigher(begins, tables, goals):
    """A weigher of any size with integers that may be great."""
    made = Weigher(len(tables), (0,), (((0,),),) * len(tables), (0,))
    made._begins = tuple(begins)
    made._tables = tuple([tuple([tuple(row) for row in table]) for table in tables])
    made._goals = tuple(goals)
    return made


def check_weigher(weigher):
    """Let only a weigher pass."""
    if not isinstance(weigher, Weigher):
        raise NotAWeigher(weigher)


def check_weighers(weigher, other):
    """Let only two weighers with as many signs pass."""
    check_weigher(weigher)
    check_weigher(other)
    if weigher.signs != other.signs:
        raise UnlikeSigns()


def turned_table(table):
    """The table with rows for columns."""
    return list(zip(*table))


def value(weigher, row):
    """The value of a row."""
    check_weigher(weigher)
    check_row(weigher.signs, row)
    columns = [turned_table(table) for table in weigher.tables]
    numbers = weigher.begins
    for sign in row:
        numbers = [dot(numbers, column) for column in columns[ALPHABET.index(sign)]]
    return dot(numbers, weigher.goals)


def total(weigher, length):
    """The sum of the values of all rows of this length."""
    check_weigher(weigher)
    check_length(length)
    places = range(weigher.size)
    sums = [[sum([table[one][two] for table in weigher.tables]) for one in places] for two in places]
    numbers = weigher.begins
    for _ in range(length):
        numbers = [dot(numbers, column) for column in sums]
    return dot(numbers, weigher.goals)


def order_of(weigher):
    """The least size, 1 at least, of a weigher, fractions let in it, that has the same values.

    It is the rank of the values of all rows: fronts, that make the numbers, by rests, that make the goals.
    """
    check_weigher(weigher)
    turned = [turned_table(table) for table in weigher.tables]
    fronts = [numbers for _, numbers in new_rows(weigher.begins, weigher.tables)]
    rests = [numbers for _, numbers in new_rows(weigher.goals, turned)]
    return max(1, rank([[dot(front, rest) for rest in rests] for front in fronts], len(rests)))


def same_values(weigher, other):
    """Whether all rows have the same values."""
    check_weighers(weigher, other)
    return first_unlike(weigher, other) is None


def first_unlike(weigher, other):
    """The first row with unlike values, or None.

    The difference of the values is 0 for all rows whose numbers are in the span of those of rows ahead of them,
    if it is 0 for these.
    """
    check_weighers(weigher, other)
    begins, tables = side_by_side(weigher, other)
    goals = weigher.goals + tuple([-number for number in other.goals])
    for signs, numbers in new_rows(begins, tables):
        if dot(numbers, goals):
            return "".join([ALPHABET[sign] for sign in signs])
    return None


def side_by_side(weigher, other):
    """The begins and tables of both, the numbers of the other one behind those of the one."""
    right, left = (0,) * other.size, (0,) * weigher.size
    tables = [[row + right for row in first] + [left + row for row in second]
              for first, second in zip(weigher.tables, other.tables)]
    return weigher.begins + other.begins, tables


def check_made(size):
    """Let only a weigher pass that is not too great to be made."""
    if size > MOST_WEIGHED:
        raise TooMany(MOST_WEIGHED)


def sum_of(weigher, other):
    """A weigher with the sums of both values."""
    check_weighers(weigher, other)
    check_made(weigher.size + other.size)
    begins, tables = side_by_side(weigher, other)
    return made_weigher(begins, tables, weigher.goals + other.goals)


def product_of(weigher, other):
    """A weigher with the products of both values."""
    check_weighers(weigher, other)
    check_made(weigher.size * other.size)
    tables = [[products(one, two) for one in first for two in second]
              for first, second in zip(weigher.tables, other.tables)]
    return made_weigher(products(weigher.begins, other.begins), tables, products(weigher.goals, other.goals))


def products(first, second):
    """All numbers of the first row, each times all of the second."""
    return [one * two for one in first for two in second]


def unit(size, place):
    """A row with 1 at a place, and 0 elsewhere."""
    return [1 if at == place else 0 for at in range(size)]


def weigher_of(reader):
    """A weigher that has the value 1 for each yes row and 0 for others."""
    check_reader(reader)
    made = least(reader)
    size = len(made)
    check_made(size)
    # unit gives a row of 0 where the goal is None.
    tables = [[unit(size, goals[sign]) for goals in made.arrows] for sign in range(made.signs)]
    return made_weigher(unit(size, 0), tables, [1 if end else 0 for end in end_flags(made)])


def ways_weigher(guesser):
    """A weigher that has the number of ways of each row as its value."""
    check_guesser(guesser)
    links = Links(guesser, useful_stands(guesser))
    # Whoever may go round without a sign on the way to a goal has more ways than any number.
    if going_round(links.empty):
        raise InvalidSteps(guesser.steps)
    size = guesser.size
    begins = with_empty(links, [links.first >> stand & 1 for stand in range(size)])
    tables = [[with_empty(links, passed_on(signed, unit(size, stand))) for stand in range(size)]
              for signed in links.signed]
    return made_weigher(begins, tables, [links.last >> stand & 1 for stand in range(size)])
