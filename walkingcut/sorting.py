"""Sorting backward: it brings home just what can have come."""

from walkingcut.logs import check_arrangement, home, places_of


def unwound(log, arrangement):
    """What comes of sorting backward, and the rows that stood in the stretches ahead of it, the first spill first."""
    cells = list(arrangement)
    stood = []
    for first, last, _ in reversed(log.spills):
        row = cells[first:last + 1]
        stood.append(tuple(row))
        cells[first:last + 1] = sorted(row)
    return tuple(cells), tuple(reversed(stood))


def sorted_back(log, arrangement):
    """What comes of an arrangement when the stretches, the last one first, are put in ascending order."""
    check_arrangement(log, arrangement)
    return unwound(log, arrangement)[0]


def can_come(log, arrangement):
    """Whether some history ends with an arrangement."""
    return sorted_back(log, arrangement) == home(log)


def history_for(log, arrangement):
    """A history that ends with an arrangement, or None."""
    check_arrangement(log, arrangement)
    first_row, history = unwound(log, arrangement)
    if first_row != home(log):
        return None
    return history


def history_between(log, start, goal):
    """What is put back at each spill for a log to lead from one right arrangement to another one, or None."""
    # Each vial is called by the place where it starts, and by its own name again behind that.
    places = places_of(start)
    history = history_for(log, tuple([places[vial] for vial in goal]))
    if history is None:
        return None
    return tuple([tuple([start[place] for place in row]) for row in history])
