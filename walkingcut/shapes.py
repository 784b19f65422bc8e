"""The four shapes: just where one of them stands, single claims are not enough for all."""

from walkingcut.errors import NoNumber
from walkingcut.kinds import is_lot_below, is_within
from walkingcut.logs import check_arrangement
from walkingcut.utmosts import utmost

SHAPES = ((3, 1, 2, 0), (2, 4, 0, 3, 1), (3, 1, 4, 0, 2), (2, 4, 0, 5, 1, 3))


def shape_in(log):
    """The least pair of a shape's number and the places at which it stands in the utmost arrangement, or None."""
    top = utmost(log)
    for number, shape in enumerate(SHAPES):
        places = first_places(top, shape, ())
        if places is not None:
            return number, places
    return None


def first_places(arrangement, shape, begun):
    """The least places, those begun with first, at which a shape stands in an arrangement, or None."""
    if len(begun) == len(shape):
        return begun
    low, high = room(arrangement, shape, begun)
    for place in range(begun[-1] + 1 if begun else 0, len(arrangement)):
        if low < arrangement[place] < high:
            places = first_places(arrangement, shape, begun + (place,))
            if places is not None:
                return places
    return None


def room(arrangement, shape, begun):
    """The vials between which that in the next place must be for a shape to stand."""
    size = shape[len(begun)]
    low = max([arrangement[place] for place, other in zip(begun, shape) if other < size], default=-1)
    high = min([arrangement[place] for place, other in zip(begun, shape) if other > size], default=len(arrangement))
    return low, high


def stands_at(log, arrangement, number, thing):
    """Whether a shape stands in an arrangement at a thing, a tuple of places."""
    check_arrangement(log, arrangement)
    if not is_within(number, 0, len(SHAPES) - 1):
        raise NoNumber()
    if not is_lot_below(thing, log.many):
        return False
    vials = [arrangement[place] for place in thing]
    in_order = sorted(vials)
    return tuple([in_order.index(vial) for vial in vials]) == SHAPES[number]
