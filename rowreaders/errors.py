"""The errors of the package: each class stands straight under the base that the document tells."""


class WrongValue(ValueError):
    """A value is not of the kind or form that is asked for."""


class InvalidSigns(WrongValue):
    """No number of signs, no lot of signs, or no order of signs."""

    def __init__(self, given):
        self.given = given


class InvalidArrows(WrongValue):
    """No arrows of a reader or watcher."""

    def __init__(self, given):
        self.given = given


class InvalidEnds(WrongValue):
    """No ascending tuple of stands."""

    def __init__(self, given):
        self.given = given


class InvalidRow(WrongValue):
    """No row of signs that is let here."""

    def __init__(self, given):
        self.given = given


class InvalidNumber(WrongValue):
    """No number that is let here."""

    def __init__(self, given):
        self.given = given


class InvalidStand(WrongValue):
    """No stand of the reader."""

    def __init__(self, given):
        self.given = given


class InvalidSign(WrongValue):
    """No sign of the reader."""

    def __init__(self, given):
        self.given = given


class InvalidBook(WrongValue):
    """No book for the reader."""

    def __init__(self, given):
        self.given = given


class InvalidPlan(WrongValue):
    """No plan of the one who is told."""

    def __init__(self, given):
        self.given = given


class InvalidSteps(WrongValue):
    """No steps of a guesser, or steps that are not let here."""

    def __init__(self, given):
        self.given = given


class InvalidWeights(WrongValue):
    """No weights of a weigher."""

    def __init__(self, given):
        self.given = given


class InvalidOutputs(WrongValue):
    """No words of a writer."""

    def __init__(self, given):
        self.given = given


class InvalidMarks(WrongValue):
    """No marks of a watcher."""

    def __init__(self, given):
        self.given = given


class InvalidFormula(WrongValue):
    """No formula of as many numbers as are told."""

    def __init__(self, given):
        self.given = given


class InvalidTold(WrongValue):
    """No told rows or numbers."""

    def __init__(self, given):
        self.given = given


class InvalidText(WrongValue):
    """No text of a reader."""

    def __init__(self, given):
        self.given = given


class InvalidName(WrongValue):
    """No name of a shelf."""

    def __init__(self, given):
        self.given = given


class InvalidClaim(WrongValue):
    """No claim of a shelf."""

    def __init__(self, given):
        self.given = given


class InvalidIndex(WrongValue):
    """No index of a claim."""

    def __init__(self, given):
        self.given = given


class InvalidLine(WrongValue):
    """No line that can be carried out."""

    def __init__(self, given):
        self.given = given


class NotAReader(WrongValue):
    """No reader."""

    def __init__(self, given):
        self.given = given


class NotAGuesser(WrongValue):
    """No guesser."""

    def __init__(self, given):
        self.given = given


class NotAWeigher(WrongValue):
    """No weigher."""

    def __init__(self, given):
        self.given = given


class NotAWriter(WrongValue):
    """No writer."""

    def __init__(self, given):
        self.given = given


class NotAWatcher(WrongValue):
    """No watcher."""

    def __init__(self, given):
        self.given = given


class InvalidDeeds(WrongValue):
    """The first deed of several that is none."""

    def __init__(self, index):
        self.index = index


class InvalidLog(WrongValue):
    """The first line of several that is none or cannot be done."""

    def __init__(self, index):
        self.index = index


class WrongName(LookupError):
    """A name does not fit what a shelf has."""


class UnknownName(WrongName):
    """No such name is there."""

    def __init__(self, given):
        self.given = given


class InUse(WrongName):
    """A claim has the name."""

    def __init__(self, index):
        self.index = index


class NoAnswer(ArithmeticError):
    """All that was passed is right, but there is no answer to give."""


class UnlikeSigns(NoAnswer):
    """The two have not as many signs."""


class NotFull(NoAnswer):
    """The reader is not full."""


class TooMany(NoAnswer):
    """There are more than the limit."""

    def __init__(self, limit):
        self.limit = limit


class NothingToUndo(NoAnswer):
    """No change is there to be taken back."""


class Broken(NoAnswer):
    """A claim would not hold."""

    def __init__(self, index):
        self.index = index
