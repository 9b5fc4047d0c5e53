"""Rows without end, and watchers: they say yes if a mark is met again and again."""

from rowreaders.checks import ALPHABET, check_row, check_signs, is_arrows, is_stands
from rowreaders.errors import InvalidArrows, InvalidMarks, InvalidRow, NotAWatcher, UnlikeSigns
from rowreaders.likeness import flags_at_pair, goals_of_pair
from rowreaders.minimal import flags_of, kept
from rowreaders.readers import check_reader, led_from, least_of, no_rows
from rowreaders.repeating import repeating_parts
from rowreaders.seeking import explored
from rowreaders.watching import hopeful_stands, round_by, round_kinds, trimmed_parts


class Watcher:
    """Some signs, for each stand the goals of its arrows, and the stands that are marks."""

    def __init__(self, signs, arrows, marks):
        check_signs(signs)
        if not is_arrows(arrows, signs):
            raise InvalidArrows(arrows)
        if not is_stands(marks, len(arrows)):
            raise InvalidMarks(marks)
        self._signs = signs
        self._arrows = arrows
        self._marks = marks

    @property
    def signs(self):
        """How many signs the watcher has."""
        return self._signs

    @property
    def arrows(self):
        """For each stand the tuple of what its signs lead to, None for nowhere."""
        return self._arrows

    @property
    def marks(self):
        """The ascending tuple of the stands that are marks."""
        return self._marks

    def __len__(self):
        return len(self._arrows)

    def __eq__(self, other):
        return (isinstance(other, Watcher) and self._signs == other._signs
                and self._arrows == other._arrows and self._marks == other._marks)


def check_watcher(watcher):
    """Let only a watcher pass."""
    if not isinstance(watcher, Watcher):
        raise NotAWatcher(watcher)


def check_watchers(watcher, other):
    """Let only two watchers with as many signs pass."""
    check_watcher(watcher)
    check_watcher(other)
    if watcher.signs != other.signs:
        raise UnlikeSigns()


def made_watcher(signs, arrows, marks):
    """A watcher, of any number of stands, that says yes as one with these arrows and marks does."""
    made = Watcher(signs, ((None,) * signs,), ())
    made._arrows, made._marks = trimmed_parts(signs, arrows, marks)
    return made


def mark_flags(watcher):
    """For each stand whether it is a mark."""
    return flags_of(len(watcher), watcher.marks)


def watches(watcher, start, loop):
    """Whether the watcher says yes to the row without end with this start and loop."""
    check_watcher(watcher)
    check_row(watcher.signs, start)
    check_row(watcher.signs, loop)
    if loop == "":
        raise InvalidRow(loop)
    is_mark = mark_flags(watcher)
    stand = led_from(watcher, 0, start)
    times = {}
    marked = []
    while stand is not None and stand not in times:
        times[stand] = len(times)
        stand, is_met = led_by_marks(watcher, is_mark, stand, loop)
        marked.append(is_met)
    return stand is not None and any(marked[times[stand]:])


def led_by_marks(watcher, is_mark, stand, row):
    """The stand to which a row leads from a stand, or None, and whether it meets a mark on its way."""
    is_met = False
    for sign in row:
        stand = watcher.arrows[stand][ALPHABET.index(sign)]
        if stand is None:
            return None, False
        is_met = is_met or is_mark[stand]
    return stand, is_met


def loop_outside(watcher, other):
    """Any pair of rows to which the one watcher says yes, and the other one does not; None if there is none."""
    places, arrows = explored((0, 0), lambda place: beside(watcher, other, place))
    here, there = mark_flags(watcher), mark_flags(other)
    flags = [flags_at_pair(here, there, place) for place in places]
    return round_by(watcher.signs, arrows, [one for one, _ in flags], [not two for _, two in flags])


def beside(watcher, other, place):
    """Where the signs lead two stands, as far as the first one leads on."""
    return [None if goal[0] is None else goal for goal in goals_of_pair(watcher, other, place)]


def met_part(watcher, begin):
    """The arrows of the stands to which rows lead from one, which is put first, and which of these are marks."""
    is_mark = mark_flags(watcher)
    stands, arrows = explored(begin, lambda stand: watcher.arrows[stand])
    return arrows, [is_mark[stand] for stand in stands]


def flagged(flags):
    """The places that have the flag."""
    return [at for at in range(len(flags)) if flags[at]]


def a_loop(watcher):
    """Any pair of rows to which the watcher says yes, None if there is none."""
    check_watcher(watcher)
    arrows, is_mark = met_part(watcher, 0)
    return round_by(watcher.signs, arrows, is_mark, [True] * len(arrows))


def same_loops(watcher, other):
    """Whether both are alike."""
    return unlike_loop(watcher, other) is None


def unlike_loop(watcher, other):
    """Any pair of rows to which just one of them says yes, None if there is none."""
    check_watchers(watcher, other)
    found = loop_outside(watcher, other)
    return loop_outside(other, watcher) if found is None else found


def both_loops(watcher, other):
    """Any watcher that says yes where both do.

    It waits for a mark of the one, then for one of the other one, then it meets a mark itself.
    """
    check_watchers(watcher, other)
    here, there = mark_flags(watcher), mark_flags(other)

    def later(one, two, turn):
        if one is None or two is None:
            return None
        if turn == 1:
            return one, two, 2 if there[two] else 1
        return one, two, 1 if here[one] else 0

    def steps(place):
        one, two, turn = place
        return [later(goal, other_goal, turn) for goal, other_goal in zip(watcher.arrows[one], other.arrows[two])]
    places, arrows = explored((0, 0, 0), steps)
    return made_watcher(watcher.signs, arrows, flagged([turn == 2 for _, _, turn in places]))


def either_loops(watcher, other):
    """Any watcher that says yes where one of them at least does."""
    check_watchers(watcher, other)
    here, there = mark_flags(watcher), mark_flags(other)

    def steps(place):
        return [None if goal == (None, None) else goal for goal in goals_of_pair(watcher, other, place)]
    places, arrows = explored((0, 0), steps)
    is_mark = [True in flags_at_pair(here, there, place) for place in places]
    return made_watcher(watcher.signs, arrows, flagged(is_mark))


def closed(watcher):
    """Any watcher that says yes to all rows without end of which each front is one of a row that is watched for."""
    check_watcher(watcher)
    stands = hopeful_stands(watcher.arrows, watcher.marks)
    if not stands:
        return made_watcher(watcher.signs, watcher.arrows, ())
    arrows, _ = kept(watcher.arrows, (), stands)
    return made_watcher(watcher.signs, arrows, list(range(len(arrows))))


def is_closed(watcher):
    """Whether the watcher is closed."""
    return same_loops(watcher, closed(watcher))


def other_loops(watcher):
    """Any watcher that says yes just where this one does not, None if there is none.

    By Landweber's theorem there is one exactly if no knot has rounds both by a mark and without one.
    """
    check_watcher(watcher)
    nowhere = len(watcher)
    whole = [[nowhere if goal is None else goal for goal in goals] for goals in watcher.arrows]
    whole.append([nowhere] * watcher.signs)
    stands, arrows = explored(0, lambda stand: whole[stand])
    is_mark = flags_of(len(whole), watcher.marks)
    marked, plain = round_kinds(arrows, flagged([is_mark[stand] for stand in stands]))
    if any([marked[at] and plain[at] for at in range(len(arrows))]):
        return None
    return made_watcher(watcher.signs, arrows, flagged(plain))


def fronts_of(watcher):
    """The least reader of all fronts of the rows without end to which the watcher says yes."""
    check_watcher(watcher)
    return least_of(watcher.signs, watcher.arrows, hopeful_stands(watcher.arrows, watcher.marks))


def loops_behind(watcher, start):
    """The least reader of all rows that, as loops behind this start, make rows to which the watcher says yes."""
    check_watcher(watcher)
    check_row(watcher.signs, start)
    begin = led_from(watcher, 0, start)
    if begin is None:
        return no_rows(watcher.signs)
    arrows, is_mark = met_part(watcher, begin)
    arrows, marks = trimmed_parts(watcher.signs, arrows, flagged(is_mark))
    arrows, ends = repeating_parts(watcher.signs, arrows, marks)
    return least_of(watcher.signs, arrows, ends)


def watcher_of(reader):
    """Any watcher that says yes to the rows without end of which endlessly many fronts are yes rows."""
    check_reader(reader)
    return made_watcher(reader.signs, reader.arrows, reader.ends)
