"""Benches: a reader is changed by deeds, which can be taken back."""

from rowreaders.checks import ALPHABET, is_row
from rowreaders.errors import InvalidSign, NothingToUndo, TooMany
from rowreaders.likeness import least
from rowreaders.limits import MOST_CHANGES, MOST_STANDS
from rowreaders.readers import Reader, check_reader, check_stand
from rowreaders.trials import Trial


class BenchState:
    """A reader, how many stands its least reader has, and the deeds that led to it, with what was before."""

    def __init__(self, made, lines, before):
        self.made = made
        self.least_size = len(least(made))
        self.lines = lines
        self.before = before


class Bench:
    """A reader that is changed by deeds."""

    def __init__(self, reader):
        check_reader(reader)
        self.state = BenchState(reader, (), None)

    @property
    def reader(self):
        """The reader as it is now."""
        return self.state.made

    @property
    def fewest(self):
        """How many stands the least reader has."""
        return self.state.least_size

    @property
    def changes(self):
        """How many changes can be taken back."""
        return len(self.state.lines)

    @property
    def log(self):
        """The lines of the changes that can be taken back."""
        return self.state.lines

    def lead(self, stand, sign, goal):
        """Let the arrow of a stand and a sign lead to another stand, or nowhere."""
        made = self.state.made
        check_stand(made, stand)
        if not is_row(sign, made.signs, 1) or sign == "":
            raise InvalidSign(sign)
        if goal is not None:
            check_stand(made, goal)
        goals = list(made.arrows[stand])
        goals[ALPHABET.index(sign)] = goal
        arrows = list(made.arrows)
        arrows[stand] = tuple(goals)
        word = "-" if goal is None else f"{goal}"
        return self.change(arrows, made.ends, f"lead {stand} {sign} {word}")

    def turn(self, stand):
        """Make a stand an end, or no end any more."""
        made = self.state.made
        check_stand(made, stand)
        ends = [end for end in made.ends if end != stand]
        if stand not in made.ends:
            ends.append(stand)
        return self.change(made.arrows, sorted(ends), f"turn {stand}")

    def grow(self):
        """Put a stand behind the others, without arrows, no end."""
        made = self.state.made
        if len(made) == MOST_STANDS:
            raise TooMany(MOST_STANDS)
        return self.change(made.arrows + ((None,) * made.signs,), made.ends, "grow")

    def change(self, arrows, ends, line):
        """Let the reader have these arrows and ends, by the deed of a line; how few stands are enough then."""
        if self.changes == MOST_CHANGES:
            raise TooMany(MOST_CHANGES)
        made = Reader(self.state.made.signs, tuple(arrows), tuple(ends))
        self.state = BenchState(made, self.state.lines + (line,), self.state)
        return self.fewest

    def undo(self):
        """Take back the last change."""
        if self.state.before is None:
            raise NothingToUndo()
        self.state = self.state.before

    def trial(self):
        """What stands in a with statement, behind which all is as it was."""
        return Trial(self)

    def tried(self, action):
        """Call an action with the bench in a trial, and return what it returns."""
        with self.trial():
            return action(self)
