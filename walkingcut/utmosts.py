"""The utmost arrangement: just what is below it can have come."""

from walkingcut.kinds import check_cuts
from walkingcut.logs import check_arrangement, home, is_arrangement, places_of


def put_down(arrangement, spill):
    """What comes of an arrangement when the stretch of a spill is put in descending order."""
    first, last, _ = spill
    return arrangement[:first] + tuple(sorted(arrangement[first:last + 1], reverse=True)) + arrangement[last + 1:]


def turned_down(log, arrangement):
    """What comes of an arrangement when each stretch, the first one first, is put in descending order."""
    row = arrangement
    for spill in log.spills:
        row = put_down(row, spill)
    return row


def utmost(log):
    """The arrangement above all that can come."""
    return turned_down(log, home(log))


def passing(log, arrangement, begin, end):
    """The number of the vials below begin that stand in places from end on."""
    check_arrangement(log, arrangement)
    check_cuts(log, begin, end)
    return len([vial for vial in arrangement[end:] if vial < begin])


def passing_table(arrangement):
    """For each begin the tuple, for each end, of how many pass."""
    counts = [0] * (len(arrangement) + 1)
    table = [tuple(counts)]
    for place in places_of(arrangement):
        counts = [count + 1 if end <= place else count for end, count in enumerate(counts)]
        table.append(tuple(counts))
    return tuple(table)


def stays_under(table, arrangement):
    """Whether nowhere more pass in an arrangement than a table of passing tells."""
    counts = [0] * len(table)
    for vial, place in enumerate(places_of(arrangement)):
        # Beyond the vial's place no count grows, and a table does not fall from one begin to the next.
        for end in range(place + 1):
            counts[end] += 1
            if counts[end] > table[vial + 1][end]:
                return False
    return True


def is_below(log, one, other):
    """Whether for each begin and end at most as many pass in the one as in the other."""
    check_arrangement(log, one)
    return is_arrangement(log, other) and stays_under(passing_table(other), one)
