"""Two witnesses: racks that were filled alike, and what they show behind their own logs."""

from walkingcut.counting import many_arrangements
from walkingcut.logs import backward, behind, check_arrangement, check_racks
from walkingcut.sorting import history_between


def agreeing(one_log, other_log):
    """The log by which home comes to just what the other rack can show while the one shows home."""
    return behind(backward(one_log), other_log)


def between(one_log, other_log, one, other):
    """What was put back by the agreeing log from what the one rack shows to what the other one does, or None."""
    check_racks(one_log, other_log)
    check_arrangement(one_log, one)
    check_arrangement(other_log, other)
    return history_between(agreeing(one_log, other_log), one, other)


def agree(one_log, other_log, one, other):
    """Whether some filling leads to both arrangements."""
    return between(one_log, other_log, one, other) is not None


def filling(one_log, other_log, one, other):
    """A filling that leads to both arrangements, or None."""
    history = between(one_log, other_log, one, other)
    if history is None:
        return None
    cells = list(one)
    # As many rows as the one log has spills lead back to what both racks had at first.
    for (first, last, _), row in zip(backward(one_log).spills, history):
        cells[first:last + 1] = list(row)
    return tuple(cells)


def fillings(log, arrangement):
    """The number of the fillings from which an arrangement can have come."""
    check_arrangement(log, arrangement)
    # Each way of moving the vials that leads on from home leads, turned round, back from the arrangement.
    return many_arrangements(log)
