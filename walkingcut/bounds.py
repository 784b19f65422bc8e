"""Bounds: no vial stands ahead of a place that is its bound, or none behind it."""

from walkingcut.errors import NoBounds
from walkingcut.kinds import are_within
from walkingcut.sorting import can_come, history_for


def check_bounds(log, bounds):
    """NoBounds unless they are."""
    if not are_within(bounds, log.many, 0, log.many - 1):
        raise NoBounds()


def least_beyond(log, bounds):
    """The least arrangement in which each vial stands at its bound or behind it, None if there is none."""
    check_bounds(log, bounds)
    return filled_up(bounds)


def filled_up(bounds):
    """The least arrangement of right bounds, None if there is none."""
    # The smallest vial that may stand in a place takes it: so, for each cut, as many vials below it as can be stand
    # left of each place.
    waiting = list(range(len(bounds)))
    standing = []
    for place in range(len(bounds)):
        ready = [vial for vial in waiting if bounds[vial] <= place]
        if not ready:
            return None
        standing.append(ready[0])
        waiting.remove(ready[0])
    return tuple(standing)


def turned(row):
    """A tuple with a vial for each place, or a place for each vial, with both counted from the other side."""
    return tuple([len(row) - 1 - part for part in reversed(row)])


def least_ahead(log, bounds):
    """The least arrangement in which each vial stands at its bound or ahead of it, None if there is none."""
    check_bounds(log, bounds)
    # Seen from the other side of the rack ahead is behind, and what is below another one remains so.
    least = filled_up(turned(bounds))
    return None if least is None else turned(least)


def can_come_if_any(log, least):
    """Whether there is a least arrangement, and it can come."""
    return least is not None and can_come(log, least)


def history_if_any(log, least):
    """A history that ends with a least arrangement, None if there is no such arrangement or it cannot come."""
    return None if least is None else history_for(log, least)


def can_be_beyond(log, bounds):
    """Whether some arrangement with each vial at its bound or behind it can come."""
    return can_come_if_any(log, least_beyond(log, bounds))


def can_be_ahead(log, bounds):
    """Whether some arrangement with each vial at its bound or ahead of it can come."""
    return can_come_if_any(log, least_ahead(log, bounds))


def history_beyond(log, bounds):
    """A history that ends with each vial at its bound or behind it, or None."""
    return history_if_any(log, least_beyond(log, bounds))


def history_ahead(log, bounds):
    """A history that ends with each vial at its bound or ahead of it, or None."""
    return history_if_any(log, least_ahead(log, bounds))
