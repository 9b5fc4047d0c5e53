"""Rows that lead many stands of a full reader to one, and rows along which what is said tells the stand."""

from rowreaders.checks import check_row
from rowreaders.crowds import crowd_of, size_of, turned_links, spread, union
from rowreaders.errors import NotFull, TooMany
from rowreaders.limits import MOST_LED, MOST_PARTED
from rowreaders.readers import check_reader, check_stand, end_flags, is_full, led_from, least_of
from rowreaders.seeking import first_row_to


def check_led(reader, most):
    """Let only a full reader pass with so many stands at most."""
    if not is_full(reader):
        raise NotFull()
    if len(reader) > most:
        raise TooMany(most)


def sign_links(reader):
    """For each sign and stand the crowd of the stand to which it leads."""
    return [[1 << goals[sign] for goals in reader.arrows] for sign in range(reader.signs)]


def all_together(reader):
    """The crowd of all stands."""
    return (1 << len(reader)) - 1


def reset_row(reader):
    """The first row that resets the reader, or None."""
    check_reader(reader)
    check_led(reader, MOST_LED)
    links = sign_links(reader)
    return first_row_to(reader.signs, all_together(reader), lambda crowd, sign: union(links[sign], crowd),
                        lambda crowd: size_of(crowd) == 1)


def joins(reader, one, other):
    """Whether some row leads both stands to one."""
    return joining_row(reader, one, other) is not None


def joining_row(reader, one, other):
    """The first row that leads both stands to one, or None."""
    check_reader(reader)
    check_stand(reader, one)
    check_stand(reader, other)
    check_led(reader, MOST_LED)
    arrows = reader.arrows
    return first_row_to(reader.signs, (one, other), lambda pair, sign: (arrows[pair[0]][sign], arrows[pair[1]][sign]),
                        lambda pair: pair[0] == pair[1])


def crowds_led(reader):
    """The crowds to which rows lead all stands, and for each one the numbers of those to which signs lead it."""
    links = sign_links(reader)
    crowds = [all_together(reader)]
    number = {crowds[0]: 0}
    arrows = []
    while len(arrows) < len(crowds):
        goals = []
        for link in links:
            goal = union(link, crowds[len(arrows)])
            if goal not in number:
                number[goal] = len(crowds)
                crowds.append(goal)
            goals.append(number[goal])
        arrows.append(goals)
    return crowds, arrows


def fewest_left(reader):
    """The least number of stands to which some row leads all of them."""
    check_reader(reader)
    check_led(reader, MOST_LED)
    crowds, _ = crowds_led(reader)
    return min([size_of(crowd) for crowd in crowds])


def reset_rows(reader):
    """The reader of all rows that reset the reader."""
    check_reader(reader)
    check_led(reader, MOST_LED)
    crowds, arrows = crowds_led(reader)
    return least_of(reader.signs, arrows, [at for at in range(len(crowds)) if size_of(crowds[at]) == 1])


class Doubts:
    """The pairs of stands of which one does not know in which of both one is, as crowds of their numbers.

    In doubt are all pairs of stands of which the same is said. For each sign, links has the crowd of the pair
    to which it leads a pair, an empty one if there the doubt is over, and joined the crowd of the pairs that it
    leads to one stand.
    """

    def __init__(self, reader):
        flags = end_flags(reader)
        places = range(len(reader))
        pairs = [(one, two) for two in places for one in places if one < two and flags[one] == flags[two]]
        number = {pairs[at]: at for at in range(len(pairs))}
        self.all_pairs = (1 << len(pairs)) - 1
        self.links = []
        self.joined = []
        for sign in range(reader.signs):
            goals = [(reader.arrows[one][sign], reader.arrows[two][sign]) for one, two in pairs]
            goals = [(min(goal), max(goal)) for goal in goals]
            self.links.append([1 << number[goal] if goal in number else 0 for goal in goals])
            self.joined.append(crowd_of([at for at in range(len(goals)) if goals[at][0] == goals[at][1]]))

    def step(self, crowd, sign):
        """The doubts behind a sign."""
        return union(self.links[sign], crowd)

    def step_apart(self, crowd, sign):
        """The doubts behind a sign, or None if two stands that are in doubt come to one."""
        return None if crowd & self.joined[sign] else union(self.links[sign], crowd)

    def can_end(self):
        """Whether for each pair some row ends the doubt."""
        onward = [0] * self.all_pairs.bit_length()
        ending = 0
        for links in self.links:
            onward = [more | link for more, link in zip(onward, links)]
            ending |= crowd_of([at for at in range(len(links)) if not links[at]])
        return spread(turned_links(onward), ending) == self.all_pairs


def telling_row(reader):
    """The first row that tells, or None."""
    check_reader(reader)
    check_led(reader, MOST_PARTED)
    doubts = Doubts(reader)
    # Doubts can be ended one after the other, so there is a row if each alone can be ended.
    if not doubts.can_end():
        return None
    return first_row_to(reader.signs, doubts.all_pairs, lambda crowd, sign: doubts.step(crowd, sign),
                        lambda crowd: crowd == 0)


def parting_row(reader):
    """The first row that parts, or None."""
    check_reader(reader)
    check_led(reader, MOST_PARTED)
    doubts = Doubts(reader)
    return first_row_to(reader.signs, doubts.all_pairs, lambda crowd, sign: doubts.step_apart(crowd, sign),
                        lambda crowd: crowd == 0)


def said_along(reader, one, row):
    """What is said along a row that begins at a stand."""
    check_reader(reader)
    check_stand(reader, one)
    check_row(reader.signs, row)
    check_led(reader, MOST_LED)
    flags = end_flags(reader)
    return tuple([flags[led_from(reader, one, row[:at])] for at in range(len(row) + 1)])
