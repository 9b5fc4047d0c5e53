"""Formulas of one number: the greatest number that fulfils them, and how they go round at last."""

from rowreaders.formulas import formula_reader
from rowreaders.likeness import full_least
from rowreaders.listing import is_endless, longest
from rowreaders.numbers import check_formula
from rowreaders.periods import round_at_last
from rowreaders.readers import Reader, end_flags


def greatest(formula):
    """The greatest number that fulfils the formula, or None."""
    check_formula(formula, 1)
    made = formula_reader(1, formula)
    flags = end_flags(made)
    # Shortest rows but the empty one end with b, so here are the rows ahead of this b.
    ends = [stand for stand in range(len(made)) if made.arrows[stand][1] is not None and flags[made.arrows[stand][1]]]
    fronts = Reader(2, made.arrows, tuple(ends))
    if is_endless(fronts):
        return None
    figures = longest(fronts)
    if figures is None:
        return 0 if flags[0] else None
    return greatest_among(fronts, figures) + (1 << figures)


def greatest_among(reader, figures):
    """The greatest number that yes rows of so many figures have; there is one at least."""
    met = [{0: True}]
    for place in range(figures):
        goals = {goal: True for stand in met[place] for goal in reader.arrows[stand] if goal is not None}
        met.append(goals)
    number = 0
    goals = [stand for stand in met[figures] if stand in reader.ends]
    for place in range(figures - 1, -1, -1):
        ones = [stand for stand in met[place] if reader.arrows[stand][1] in goals]
        number = 2 * number + (1 if ones else 0)
        goals = ones if ones else [stand for stand in met[place] if reader.arrows[stand][0] in goals]
    return number


def round_of_numbers(formula):
    """The pair (p, m) such that from m on numbers and those more by p fulfil it alike, both least; or None."""
    check_formula(formula, 1)
    arrows, ends = full_least(formula_reader(1, formula))
    return round_at_last(arrows, ends)
