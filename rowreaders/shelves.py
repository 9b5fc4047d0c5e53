"""Shelves: readers under names, with claims that hold after each change."""

from rowreaders.checks import is_between
from rowreaders.claims import holds, is_claim, names_in
from rowreaders.errors import Broken, InUse, InvalidClaim, InvalidDeeds, InvalidIndex, InvalidName, NothingToUndo
from rowreaders.errors import UnknownName
from rowreaders.readers import check_reader
from rowreaders.trials import Trial

LETTERS = "abcdefghijklmnopqrstuvwxyz"
MOST_LETTERS = 8
DEED_SIZES = {"put": 3, "drop": 2, "claim": 2, "lift": 2}


class ShelfState:
    """Readers by their names, and a row of claims, with how many changes led to them, and what was before."""

    def __init__(self, readers, held, before):
        self.readers = readers
        self.held = held
        self.depth = 0 if before is None else before.depth + 1
        self.before = before


class Shelf:
    """Keeps readers under names, and claims about them that hold."""

    def __init__(self):
        self.state = ShelfState({}, (), None)

    @property
    def names(self):
        """The names, ascending."""
        return tuple(sorted(list(self.state.readers)))

    @property
    def claims(self):
        """The claims, in their sequence."""
        return self.state.held

    @property
    def changes(self):
        """How many changes can be taken back."""
        return self.state.depth

    def __len__(self):
        return len(self.state.readers)

    def __bool__(self):
        return bool(self.state.readers)

    def __contains__(self, x):
        return isinstance(x, str) and x in self.state.readers

    def __iter__(self):
        raise TypeError("a shelf is not gone through: take its names")

    def __getitem__(self, at):
        if at not in self:
            raise UnknownName(at)
        return self.state.readers[at]

    def __setitem__(self, at, worth):
        if not is_name(at):
            raise InvalidName(at)
        check_reader(worth)
        readers = dict(self.state.readers)
        readers[at] = worth
        for index in range(len(self.claims)):
            claim = self.claims[index]
            if at in names_in(claim) and not holds(claim, readers):
                raise Broken(index)
        self.change(readers, self.claims)

    def drop(self, name):
        """Take a reader away."""
        if name not in self:
            raise UnknownName(name)
        for index in range(len(self.claims)):
            if name in names_in(self.claims[index]):
                raise InUse(index)
        readers = {other: self.state.readers[other] for other in self.names if other != name}
        self.change(readers, self.claims)

    def claim(self, claim):
        """Put a claim behind the others."""
        if not is_claim(claim):
            raise InvalidClaim(claim)
        for name in names_in(claim):
            if name not in self:
                raise UnknownName(name)
        if not holds(claim, self.state.readers):
            raise Broken(len(self.claims))
        self.change(self.state.readers, self.claims + (claim,))

    def lift(self, index):
        """Take a claim away."""
        if not is_between(index, 0, len(self.claims) - 1):
            raise InvalidIndex(index)
        self.change(self.state.readers, self.claims[:index] + self.claims[index + 1:])

    def change(self, readers, held):
        """Have these readers and claims from now on."""
        self.state = ShelfState(readers, held, self.state)

    def undo(self):
        """Take back the last change."""
        if self.state.before is None:
            raise NothingToUndo()
        self.state = self.state.before

    def do_all(self, *deeds, watch=None):
        """Do several changes or none, and return how many; watch is called with the shelf behind each one."""
        for index in range(len(deeds)):
            if not is_deed(deeds[index]):
                raise InvalidDeeds(index)
        after = self.state
        try:
            for deed in deeds:
                self.do_one(deed)
                if watch is not None:
                    watch(self)
            after = self.state
        finally:
            self.state = after
        return len(deeds)

    def do_one(self, deed):
        """Do a change that is told by a tuple."""
        word = deed[0]
        if word == "put":
            self[deed[1]] = deed[2]
        elif word == "drop":
            self.drop(deed[1])
        elif word == "claim":
            self.claim(deed[1])
        else:
            self.lift(deed[1])

    def trial(self):
        """What stands in a with statement, behind which all is as it was."""
        return Trial(self)

    def tried(self, action):
        """Call an action with the shelf in a trial, and return what it returns."""
        with self.trial():
            return action(self)


def is_name(value):
    """Whether a value may be a name."""
    if not isinstance(value, str) or not 1 <= len(value) <= MOST_LETTERS:
        return False
    return all([letter in LETTERS for letter in value])


def is_deed(value):
    """Whether a value is a tuple of the word of a change and as much as it needs behind it."""
    if not isinstance(value, tuple) or not value or not isinstance(value[0], str):
        return False
    return len(value) == DEED_SIZES.get(value[0])
