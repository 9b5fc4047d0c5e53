"""Nets: arrows that may lead to many stands at once, with many stands to begin at.

Where a net is at a time is told by a crowd of its stands.
"""

from rowreaders.crowds import crowd_of
from rowreaders.minimal import links_back, reached


class Net:
    """For each sign its arrows, as pairs of stands; some stands are begins, some are goals."""

    def __init__(self, arrows, begins, goals):
        self.begin_crowd = crowd_of(begins)
        self.goal_crowd = crowd_of(goals)
        self.onward = [shifts_of(pairs) for pairs in arrows]
        self.backward = [shifts_of([(goal, stand) for stand, goal in pairs]) for pairs in arrows]
        self.known = {}

    def goals_of(self, crowd):
        """The crowds to which the signs lead this one."""
        if crowd not in self.known:
            self.known[crowd] = [moved(crowd, shifts) for shifts in self.onward]
        return self.known[crowd]


def shifts_of(pairs):
    """Arrows as pairs (crowd, shift): each stand of the crowd has an arrow that leads that far.

    Many arrows lead equally far, so a crowd is moved by few shifts, however many stands it has.
    """
    begins = {}
    for stand, goal in pairs:
        begins.setdefault(goal - stand, []).append(stand)
    return [(crowd_of(begins[shift]), shift) for shift in sorted(list(begins))]


def moved(crowd, shifts):
    """The crowd to which arrows lead a crowd."""
    goals = 0
    for begins, shift in shifts:
        part = crowd & begins
        if part and shift >= 0:
            goals |= part << shift
        elif part:
            goals |= part >> -shift
    return goals


def trimmed(size, arrows, begins, goals):
    """The net without the stands that are not met on any way from a begin to a goal."""
    links = [[] for _ in range(size)]
    for pairs in arrows:
        for stand, goal in pairs:
            links[stand].append(goal)
    fore = reached(links, begins)
    back = reached(links_back(links), goals)
    number = {}
    for at in range(size):
        if fore[at] and back[at]:
            number[at] = len(number)
    kept = [[(number[one], number[two]) for one, two in pairs if one in number and two in number]
            for pairs in arrows]
    return Net(kept, [number[one] for one in begins if one in number],
               [number[one] for one in goals if one in number])
