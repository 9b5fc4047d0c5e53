"""Fates of rows that are told apart by rests behind them, to see early that there are too many unlike ones.

What is told of a fate is for each rest whether rows with this fate say yes with the rest behind them.
"""

from rowreaders.errors import TooMany
from rowreaders.limits import MOST_STANDS


class Tellings:
    """Some fates, each told apart from all others and from nowhere, and the rests that tell it."""

    def __init__(self, fates):
        self.fates = fates
        self.unlike = []
        self.rests = []
        self.answers = {}
        self.place = {}

    def told_of(self, fate):
        """What the rests tell of a fate; None stands for nowhere."""
        if fate is None:
            return (False,) * len(self.rests)
        known = self.answers.get(fate, ())
        if len(known) < len(self.rests):
            known = known + tuple([self.fates.is_yes(fate, rest) for rest in self.rests[len(known):]])
            self.answers[fate] = known
        return known

    def tell(self, rest):
        """Tell fates apart by one rest more."""
        self.rests.append(rest)
        self.place = {self.told_of(fate): fate for fate in self.unlike}

    def like(self, fate):
        """The fate that is not told apart from this one, perhaps this one; None if it is not told from nowhere."""
        told = self.told_of(fate)
        if True not in told:
            return None
        if told not in self.place:
            self.place[told] = fate
            self.unlike.append(fate)
            if len(self.unlike) > MOST_STANDS:
                raise TooMany(MOST_STANDS)
        return self.place[told]

    def take(self, rests, some):
        """Tell apart by those rests that tell more of some fates than all that are there."""
        lots = [self.told_of(fate) for fate in some]
        many = len({lot: True for lot in lots})
        for rest in rests:
            parted = [(lots[at], self.fates.is_yes(some[at], rest)) for at in range(len(some))]
            names = {}
            finer = [names.setdefault(each, len(names)) for each in parted]
            if len(names) > many:
                self.tell(rest)
                many = len(names)
                lots = finer

    def settle(self, some):
        """Let pass only if signs lead alike from all these fates that are not told apart, and are few enough."""
        is_settled = False
        while not is_settled:
            is_settled = all([self.is_alike(fate) for fate in some])
            at = 0
            while at < len(self.unlike):
                for goal in self.goals_of(self.unlike[at]):
                    self.like(goal)
                at += 1

    def is_alike(self, fate):
        """Whether signs lead alike from a fate and from the one that it is not told apart from.

        If they do not, a rest more tells both apart.
        """
        goals, others = self.goals_of(fate), self.goals_of(self.like(fate))
        for sign in range(len(goals)):
            one, two = self.told_of(goals[sign]), self.told_of(others[sign])
            if one != two:
                at = [each == other for each, other in zip(one, two)].index(False)
                self.tell(self.fates.joined(sign, self.rests[at]))
                return False
        return True

    def goals_of(self, fate):
        """What the signs lead to from a fate, or from nowhere."""
        signs = range(len(self.fates.later))
        return [None if fate is None else self.fates.after(fate, sign) for sign in signs]
