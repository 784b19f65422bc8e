"""Mixings: any lots of places mixed, not stretches alone."""

from walkingcut.errors import BadMixing, TooMany
from walkingcut.kinds import is_lot_below, is_within

MOST_PLACES = 20
MOST_LOTS = 40
LEAST_IN_LOT = 2


class Mixing:
    """A rack of so many places, and the lots of places that were mixed, one after another."""

    def __init__(self, many, lots):
        if not is_within(many, 1, MOST_PLACES):
            raise BadMixing("many")
        if not are_lots(many, lots):
            raise BadMixing("lots")
        self.many = many
        self.lots = lots

    def __eq__(self, other):
        return isinstance(other, Mixing) and self.many == other.many and self.lots == other.lots


def are_lots(many, thing):
    """Whether a thing is a tuple of lots of two places or more, not more than a mixing is made with."""
    if not isinstance(thing, tuple) or len(thing) > MOST_LOTS:
        return False
    return all([is_lot_below(part, many) and len(part) >= LEAST_IN_LOT for part in thing])


def as_mixing(log):
    """The mixing of a log."""
    if log.many > MOST_PLACES:
        raise TooMany(MOST_PLACES)
    if len(log.spills) > MOST_LOTS:
        raise TooMany(MOST_LOTS)
    return Mixing(log.many, tuple([tuple(range(first, last + 1)) for first, last, _ in log.spills]))
