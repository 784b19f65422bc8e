"""Logs made for an utmost arrangement."""

from walkingcut.errors import TooMany
from walkingcut.logs import check_arrangement, home, log_of
from walkingcut.utmosts import put_down

MOST_PLACES_GONE_THROUGH = 6


def inversions(log, arrangement):
    """The number of pairs of places in which the greater vial stands first."""
    check_arrangement(log, arrangement)
    return sum([smaller_behind(arrangement, place) for place in range(log.many)])


def smaller_behind(arrangement, place):
    """The number of the vials behind a place that are smaller than the one in it."""
    return len([vial for vial in arrangement[place + 1:] if vial < arrangement[place]])


def steps_for(log, arrangement):
    """A log of spills of two places each, as few as can be, whose utmost arrangement is the told one."""
    check_arrangement(log, arrangement)
    cells = list(arrangement)
    backward_spills = []
    place = 0
    # Each step puts one pair right that stands the wrong way round, none before the place being left so.
    while place < log.many - 1:
        if cells[place] > cells[place + 1]:
            cells[place], cells[place + 1] = cells[place + 1], cells[place]
            backward_spills.append((place, place + 1, 0))
            place = max(0, place - 1)
        else:
            place += 1
    return log_of(log.many, tuple(reversed(backward_spills)))


def fewest_spills(log, arrangement):
    """The pair of the least number of spills that lead to an utmost arrangement, and a log of them."""
    check_arrangement(log, arrangement)
    if log.many > MOST_PLACES_GONE_THROUGH:
        raise TooMany(MOST_PLACES_GONE_THROUGH)
    spills = spills_to(home(log), arrangement)
    return len(spills), log_of(log.many, spills)


def spills_to(start, goal):
    """The spills, as few as can be, that lead from one utmost arrangement to another one."""
    stretches = [(first, last, 0) for last in range(len(start)) for first in range(last)]
    known = {start: ()}
    newest = [start]
    while goal not in known:
        reached = []
        for row in newest:
            for spill in stretches:
                further = put_down(row, spill)
                if further not in known:
                    known[further] = known[row] + (spill,)
                    reached.append(further)
        newest = reached
    return known[goal]
