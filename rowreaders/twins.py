"""Two unlike rows for which the same is written."""

from rowreaders.checks import ALPHABET
from rowreaders.outputs import all_texts

# A sign that no text has, as if each row ended with it and wrote it: so no row is a front of another one.
LAST = "."


class Pairs:
    """Two rows that write the same as far as both have come, looked for along the stands of outputs.

    The one has come to a stand, and the other one, not ahead of it, to a stand from which some text, perhaps
    empty, makes good for what it is behind. Signs that rows have are kept as chains: each place in them has the
    place ahead of it and a sign.
    """

    def __init__(self, signs, outputs):
        self.goal = len(outputs.leads)
        self.ways = [[] for _ in range(self.goal + 1)]
        for stand, goal, text in all_texts(outputs):
            if goal == self.goal:
                self.ways[stand].append((goal, text + LAST, LAST))
        for sign in range(signs):
            for stand in range(self.goal):
                goal = outputs.leads[stand][sign]
                if goal is not None:
                    self.ways[stand].append((goal, outputs.texts[stand][sign], ALPHABET[sign]))
        self.chain = []
        self.met = {}
        self.waiting = []

    def longer(self, place, sign):
        """The place of a chain with one sign more."""
        self.chain.append((place, sign))
        return len(self.chain) - 1

    def row_at(self, place):
        """The row of a chain."""
        signs = []
        while place is not None:
            place, sign = self.chain[place]
            signs.append(sign)
        return "".join(signs[::-1]).rstrip(LAST)

    def part(self, stand, place):
        """Note all pairs of rows that have been one up to a stand, and part there."""
        steps = [(goal, place, sign, text) for goal, text, sign in self.ways[stand]]
        for at in range(len(steps)):
            for other in steps[:at]:
                self.meet(steps[at], other)

    def go_on(self, ahead, behind, text):
        """Note all pairs that come of this one, the row that is behind going on."""
        for goal, more, sign in self.ways[behind[0]]:
            self.meet((ahead[0], ahead[1], "", text), (goal, behind[1], sign, more))

    def meet(self, one, other):
        """Note a pair, if its texts agree and it has not been.

        Both are told by a stand, a place, the sign that comes behind it, perhaps none, and a text. Of two that
        are as far, the one with the lesser stand goes on, so that the goal, which is the last one, waits.
        """
        if not one[3].startswith(other[3]) or one[3] == other[3] and one[0] < other[0]:
            one, other = other, one
        if not one[3].startswith(other[3]):
            return
        text = one[3][len(other[3]):]
        if (one[0], other[0], text) not in self.met:
            self.met[one[0], other[0], text] = True
            self.waiting.append((self.come_to(one), self.come_to(other), text))

    def come_to(self, step):
        """The stand and the place of a step."""
        goal, place, sign, _ = step
        return goal, self.longer(place, sign) if sign else place


def two_alike_rows(signs, outputs):
    """Two unlike rows for which outputs, with useful stands alone, write the same, or None."""
    pairs = Pairs(signs, outputs)
    goal = pairs.goal
    places = {0: None}
    stands = [0]
    at = 0
    while at < len(stands):
        stand = stands[at]
        pairs.part(stand, places[stand])
        for other, _, sign in pairs.ways[stand]:
            if other != goal and other not in places:
                places[other] = pairs.longer(places[stand], sign)
                stands.append(other)
        at += 1
    at = 0
    while at < len(pairs.waiting):
        ahead, behind, text = pairs.waiting[at]
        if ahead[0] == goal and behind[0] == goal:
            return pairs.row_at(ahead[1]), pairs.row_at(behind[1])
        pairs.go_on(ahead, behind, text)
        at += 1
    return None
