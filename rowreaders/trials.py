"""Trials: behind them something that is changed is again as it was."""


class Kept:
    """What was, and what has been kept before it."""

    def __init__(self, state, older):
        self.state = state
        self.older = older


class Trial:
    """Stands in a with statement, around changes of an owner that holds all that changes in its state.

    States are not altered, so that it is enough to keep them. There may be several, as a trial may stand within
    itself.
    """

    def __init__(self, owner):
        self.owner = owner
        self.kept = None

    def __enter__(self):
        self.kept = Kept(self.owner.state, self.kept)
        return self.owner

    def __exit__(self, kind, value, trace):
        self.owner.state = self.kept.state
        self.kept = self.kept.older
