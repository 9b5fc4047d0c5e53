"""Where rows without end lead on along arrows, by marks again and again; all of this works on plain lists."""

from rowreaders.knots import knots_of, links_among, on_rounds
from rowreaders.minimal import by_first_rows, flags_of, kept, links_of, lots_of, nothing, useful_stands, with_numbers
from rowreaders.seeking import first_row_to


def hopeful_stands(arrows, marks):
    """The stands that can be come to, and from which rows lead on to a mark that is met again and again."""
    rounds = on_rounds(links_of(arrows))
    return useful_stands(arrows, [mark for mark in marks if rounds[mark]])


def round_kinds(arrows, marks):
    """For each stand whether rows can go round in its knot by a mark, and whether without any."""
    links = links_of(arrows)
    knot = knots_of(links)
    is_mark = flags_of(len(arrows), marks)
    rounds = on_rounds(links)
    plain_rounds = on_rounds(links_among(links, [not flag for flag in is_mark]))
    marked = {knot[mark]: True for mark in marks if rounds[mark]}
    plain = {knot[stand]: True for stand in range(len(arrows)) if plain_rounds[stand]}
    return [number in marked for number in knot], [number in plain for number in knot]


def trimmed_parts(signs, arrows, marks):
    """Arrows and marks that watch for the same rows without end, with hopeful stands alone.

    Stands that are plainly alike are put together.
    """
    stands = hopeful_stands(arrows, marks)
    if not stands:
        return nothing(signs)
    arrows, marks = kept(arrows, marks, stands)
    marked, plain = round_kinds(arrows, marks)
    is_mark = flags_of(len(arrows), marks)
    # Where no row goes round without a mark, all stands may as well be marks.
    marks = [stand for stand in range(len(arrows)) if marked[stand] and (is_mark[stand] or not plain[stand])]
    stands, number = by_first_rows(arrows, lots_of(signs, arrows, [marks], len(arrows)))
    made = [with_numbers(arrows[stand], number) for stand in stands]
    return tuple(made), tuple(sorted({number[mark] for mark in marks}))


def round_by(signs, arrows, is_wanted, is_let):
    """A pair of rows: to a stand that is wanted, and from there back to it by stands alone that are let; or None."""
    rounds = on_rounds(links_among(links_of(arrows), is_let))
    for begin in range(len(arrows)):
        if is_wanted[begin] and rounds[begin]:
            return row_to(signs, arrows, begin), row_round(signs, arrows, begin, is_let)
    return None


def row_to(signs, arrows, stand):
    """The first row from stand 0 to a stand."""
    def step(here, sign):
        return arrows[here][sign]
    return first_row_to(signs, 0, step, lambda here: here == stand)


def row_round(signs, arrows, begin, is_let):
    """The first row, not empty, from a stand back to it by stands alone that are let."""
    def step(place, sign):
        goal = arrows[place[0]][sign]
        return None if goal is None or not is_let[goal] else (goal, True)
    return first_row_to(signs, (begin, False), step, lambda place: place == (begin, True))
