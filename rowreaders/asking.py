"""What is found out by asking of a reader that nobody knows.

Some rows, the fronts, are told apart by what is said of them with other rows, the rests, behind them. Fronts that
are told apart lead to unlike stands of any reader that says so.
"""

from rowreaders.checks import ALPHABET
from rowreaders.errors import TooMany
from rowreaders.limits import MOST_GUESSED
from rowreaders.readers import least_of

# A full reader of one stand more than a guess has 78 pairs of stands at most: a longer rest comes back to a pair.
MOST_PAIRS = 78


class Table:
    """The answers that have been given, the fronts, with each one all its beginnings, and the rests."""

    def __init__(self, signs, asked):
        self.letters = ALPHABET[:signs]
        self.asked = asked
        self.answers = {}
        self.fronts = [""]
        self.rests = [""]

    def answer(self, row):
        """Whether this is a yes row."""
        if row not in self.answers:
            self.answers[row] = bool(self.asked(row))
        return self.answers[row]

    def told_of(self, front):
        """What is said of a front with each rest behind it."""
        return tuple([self.answer(front + rest) for rest in self.rests])

    def new_rest(self):
        """A rest more that tells fronts apart which are not told apart yet, or None."""
        known = {}
        for front in self.fronts:
            other = known.setdefault(self.told_of(front), front)
            for sign in self.letters:
                for rest in self.rests:
                    if self.answer(front + sign + rest) != self.answer(other + sign + rest):
                        return sign + rest
        return None

    def walk(self):
        """The first rows that are told apart, and for each one the numbers of those to which signs lead it."""
        rows = [""]
        number = {self.told_of(""): 0}
        arrows = []
        while len(arrows) < len(rows):
            goals = []
            for sign in self.letters:
                row = rows[len(arrows)] + sign
                told = self.told_of(row)
                if told not in number:
                    number[told] = len(rows)
                    rows.append(row)
                goals.append(number[told])
            # These are stands of a full reader, of which one alone can be spared.
            if len(rows) > MOST_GUESSED + 1:
                raise TooMany(MOST_GUESSED)
            arrows.append(goals)
        return rows, arrows

    def settled(self):
        """The first rows and arrows of a guess that agrees with all that is told of the fronts.

        It has no fewer stands than fronts are told apart, so that it has more each time.
        """
        while True:
            rest = self.new_rest()
            if rest is not None:
                self.rests.append(rest)
                continue
            rows, arrows = self.walk()
            fresh = [row for row in rows if row not in self.fronts]
            if not fresh:
                return rows, arrows
            self.fronts += fresh

    def guess(self, rows, arrows):
        """The least reader of a guess."""
        ends = [at for at in range(len(rows)) if self.answer(rows[at])]
        made = least_of(len(self.letters), arrows, ends)
        if len(made) > MOST_GUESSED:
            raise TooMany(MOST_GUESSED)
        return made

    def learn(self, rows, arrows, row):
        """Tell two more fronts apart by a row of which the guess says otherwise."""
        places = [0]
        for sign in row:
            places.append(arrows[places[-1]][self.letters.index(sign)])
        said = self.answer(rows[places[-1]])
        self.answers[row] = not said
        at = self.turning(rows, places, row, said)
        front, other = rows[places[at]] + row[at], rows[places[at + 1]]
        if front not in self.fronts:
            self.fronts.append(front)
        self.rests.append(self.shortened(front, other, row[at + 1:]))

    def turning(self, rows, places, row, said):
        """The number of signs that can be exchanged for the first row to their place, but not with one more.

        From the last signs on the steps back become longer and longer, so that no longer rests are asked for than
        need be.
        """
        far = 1
        stop = len(row)
        begin = stop - 1
        while begin > 0 and self.answer(rows[places[begin]] + row[begin:]) == said:
            far = 2 * far
            stop = begin
            begin = max(0, stop - far)
        while stop - begin > 1:
            middle = (begin + stop) // 2
            if self.answer(rows[places[middle]] + row[middle:]) == said:
                stop = middle
            else:
                begin = middle
        return begin

    def shortened(self, front, other, rest):
        """A rest that tells both fronts apart as this one does, and is not long."""
        shorter = rest
        while shorter is not None:
            rest = shorter
            shorter = self.with_less(front, other, rest) if len(rest) > MOST_PAIRS else None
        return rest

    def with_less(self, front, other, rest):
        """The rest without a piece of it that need not be there to tell both fronts apart, or None."""
        for size in piece_sizes(len(rest)):
            for at in range(min(MOST_PAIRS, len(rest) - size + 1)):
                less = rest[:at] + rest[at + size:]
                if self.answer(front + less) != self.answer(other + less):
                    return less
        return None


def piece_sizes(length):
    """The sizes of pieces that may be left out of so many signs: halves of halves, and all that are small."""
    sizes = []
    while length > 2 * MOST_PAIRS:
        length //= 2
        sizes.append(length)
    return sizes + list(range(min(length, MOST_PAIRS), 0, -1))
