"""Spans: which rows of integers are sums of multiples, by fractions, of other rows.

Modulo a prime this is told at once. A row that is no such sum there surely is none, but one that is may be one
by chance; so what is told to be in a span is reckoned with whole numbers.
"""

from rowreaders.moduli import inverse

PRIME = (1 << 61) - 1


class Span:
    """The span of the rows that it has taken; all have so many integers."""

    def __init__(self, width):
        self.width = width
        self.many = 0
        self.quick = []
        self.exact = []
        self.waiting = []

    def takes(self, row):
        """Take a row, if it is not in the span; whether it was taken."""
        if self.many == self.width:
            return False
        # As long as as many rows are taken modulo the prime as exactly, a row out of the one span is out of both.
        rest = self.rest_modulo(row) if len(self.quick) == self.many else None
        place = first_place(rest) if rest else None
        if place is not None:
            turned = inverse(rest[place], PRIME)
            self.quick.append((place, [number * turned % PRIME for number in rest]))
        elif not self.is_out(row):
            return False
        self.waiting.append(row)
        self.many += 1
        return True

    def rest_modulo(self, row):
        """What is left of a row modulo the prime."""
        rest = [number % PRIME for number in row]
        for place, base in self.quick:
            times = rest[place]
            if times:
                rest = [(one - times * other) % PRIME for one, other in zip(rest, base)]
        return rest

    def is_out(self, row):
        """Whether a row is not in the span."""
        for other in self.waiting:
            rest = self.rest_exactly(other)
            self.exact.append((first_place(rest), rest))
        self.waiting = []
        return first_place(self.rest_exactly(row)) is not None

    def rest_exactly(self, row):
        """What is left of a row, its numbers being minors of the rows taken and this one, as Bareiss found."""
        divisor = 1
        rest = row
        for place, base in self.exact:
            pivot, times = base[place], rest[place]
            rest = [(pivot * one - times * other) // divisor for one, other in zip(rest, base)]
            divisor = pivot
        return rest


def first_place(row):
    """The first place of a number that is not 0, or None."""
    for place in range(len(row)):
        if row[place]:
            return place
    return None


def rank(rows, width):
    """How many of these rows are not in the span of those ahead of them."""
    span = Span(width)
    return len([row for row in rows if span.takes(row)])


def new_rows(begin, tables):
    """What signs make of the first row, one after the other, as far as it is not in the span so far.

    tables has for each sign a table as in weighers. The rows of integers come in the order of the rows of signs
    that make them, as pairs of these, as tuples of numbers, and them. What comes behind a row that is a sum of
    others is the same sum of what comes behind them, so all that is made is in the span of the ones that come.
    """
    span = Span(len(begin))
    columns = [list(zip(*table)) for table in tables]
    waiting = [((), begin)]
    at = 0
    while at < len(waiting):
        signs, row = waiting[at]
        if span.takes(row):
            yield signs, row
            for sign in range(len(tables)):
                waiting.append((signs + (sign,), [dot(row, column) for column in columns[sign]]))
        at += 1


def dot(row, column):
    """The sum of the numbers times those on the same places."""
    return sum([one * other for one, other in zip(row, column)])
