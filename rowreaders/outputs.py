"""What is written along the arrows of a reader: texts, which are strings of signs of any length."""

from rowreaders.checks import ALPHABET
from rowreaders.guessing import least_of_net
from rowreaders.minimal import kept, stands_met, useful_stands
from rowreaders.readers import no_rows


class Outputs:
    """A first text, for each stand the goals of its arrows and their texts, and a last text or None.

    A row writes the first text, those of its arrows, and the last one of the stand to which it leads. Where
    there is no arrow, the text means nothing.
    """

    def __init__(self, opening, leads, texts, closing):
        self.opening = opening
        self.leads = leads
        self.texts = texts
        self.closing = closing


def closed_stands(outputs):
    """The stands that have a last text, ascending."""
    return [stand for stand in range(len(outputs.closing)) if outputs.closing[stand] is not None]


def useful_part(outputs):
    """The outputs with their useful stands alone, numbered anew; None if nothing is written for any row."""
    ends = closed_stands(outputs)
    stands = useful_stands(outputs.leads, ends)
    if not stands:
        return None
    leads, _ = kept(outputs.leads, ends, stands)
    texts = [outputs.texts[stand] for stand in stands]
    return Outputs(outputs.opening, leads, texts, [outputs.closing[stand] for stand in stands])


class Threads:
    """A net of what is written: its stands are those of the outputs, a goal, and texts begun but not ended yet.

    A text that is begun is told by the stand to which it leads, and what of it is left.
    """

    def __init__(self, outputs):
        self.goal = len(outputs.leads)
        empty = [[] for _ in range(self.goal + 1)]
        for stand, goal, text in all_texts(outputs):
            if text == "":
                empty[stand].append(goal)
        self.far = [stands_met(empty, stand) for stand in range(self.goal + 1)]
        self.begun = []
        self.place = {}

    def come_to(self, stand, text):
        """The stands of the net at which one is when this text is left to a stand of the outputs."""
        if text == "":
            return self.far[stand]
        if (stand, text) not in self.place:
            self.place[stand, text] = self.goal + 1 + len(self.begun)
            self.begun.append((stand, text))
        return [self.place[stand, text]]


def all_texts(outputs):
    """Triples of a stand, what it leads to, and the text; last texts lead to one stand more, behind the others."""
    last = len(outputs.leads)
    triples = [(stand, last, outputs.closing[stand]) for stand in closed_stands(outputs)]
    for stand in range(last):
        for goal, text in zip(outputs.leads[stand], outputs.texts[stand]):
            if goal is not None:
                triples.append((stand, goal, text))
    return triples


def image_reader(signs, outputs):
    """The least reader, of so many signs, of all rows that are written; no outputs write nothing."""
    if outputs is None:
        return no_rows(signs)
    threads = Threads(outputs)
    pairs = [[] for _ in range(signs)]
    for stand, goal, text in all_texts(outputs):
        if text:
            pairs[ALPHABET.index(text[0])] += [(stand, other) for other in threads.come_to(goal, text[1:])]
    begins = threads.come_to(0, outputs.opening)
    at = 0
    while at < len(threads.begun):
        goal, text = threads.begun[at]
        place = threads.place[goal, text]
        pairs[ALPHABET.index(text[0])] += [(place, other) for other in threads.come_to(goal, text[1:])]
        at += 1
    size = threads.goal + 1 + len(threads.begun)
    return least_of_net(signs, size, pairs, begins, [threads.goal])
