"""Outputs that write as early as can be, with as few stands as can be."""

from rowreaders.limits import MOST_STANDS
from rowreaders.minimal import by_first_rows, least_parts, links_back, links_of, lots_of, with_numbers
from rowreaders.outputs import Outputs, closed_stands


def early_outputs(signs, outputs):
    """Early outputs with which the same is written; the stands must be useful."""
    # The rows for which something is written need so many stands at least, whatever is written.
    least_parts(signs, outputs.leads, closed_stands(outputs), MOST_STANDS)
    leads = outputs.leads
    fronts = common_fronts(outputs)
    texts = [early_texts(outputs, fronts, stand) for stand in range(len(leads))]
    closing = [None if text is None else text[len(front):] for text, front in zip(outputs.closing, fronts)]
    kinds = {}
    for stand in range(len(leads)):
        kinds.setdefault((closing[stand], texts[stand]), []).append(stand)
    stands, number = by_first_rows(leads, lots_of(signs, leads, list(kinds.values()), MOST_STANDS))
    return Outputs(outputs.opening + fronts[0], [with_numbers(leads[stand], number) for stand in stands],
                   [texts[stand] for stand in stands], [closing[stand] for stand in stands])


def early_texts(outputs, fronts, stand):
    """The texts of a stand's arrows, less what is written ahead of it, and more what is written behind it."""
    texts = []
    for goal, text in zip(outputs.leads[stand], outputs.texts[stand]):
        texts.append(None if goal is None else (text + fronts[goal])[len(fronts[stand]):])
    return tuple(texts)


def common_fronts(outputs):
    """For each stand the longest row with which all that can be written from it begins."""
    links = links_of(outputs.leads)
    back = links_back(links)
    fronts = some_written(outputs, back)
    waiting = list(range(len(fronts)))
    is_waiting = [True] * len(fronts)
    at = 0
    while at < len(waiting):
        stand = waiting[at]
        is_waiting[stand] = False
        front = shorter_front(outputs, fronts, stand)
        if front != fronts[stand]:
            fronts[stand] = front
            for other in back[stand]:
                if not is_waiting[other]:
                    is_waiting[other] = True
                    waiting.append(other)
        at += 1
    return fronts


def some_written(outputs, back):
    """For each stand something that can be written from it, by a shortest row."""
    closed = closed_stands(outputs)
    rests = {stand: outputs.closing[stand] for stand in closed}
    waiting = list(closed)
    at = 0
    while at < len(waiting):
        goal = waiting[at]
        for stand in back[goal]:
            if stand not in rests:
                rests[stand] = outputs.texts[stand][outputs.leads[stand].index(goal)] + rests[goal]
                waiting.append(stand)
        at += 1
    return [rests[stand] for stand in range(len(outputs.leads))]


def shorter_front(outputs, fronts, stand):
    """What of a stand's front is a front of all that comes of the fronts behind it, too."""
    front = fronts[stand]
    if outputs.closing[stand] is not None:
        front = common_front(front, outputs.closing[stand])
    for goal, text in zip(outputs.leads[stand], outputs.texts[stand]):
        if goal is not None and front:
            front = common_front(front, text + fronts[goal])
    return front


def common_front(one, other):
    """The longest front of both."""
    alike, most = 0, min(len(one), len(other))
    while alike < most:
        middle = (alike + most + 1) // 2
        if one[:middle] == other[:middle]:
            alike = middle
        else:
            most = middle - 1
    return one[:alike]
