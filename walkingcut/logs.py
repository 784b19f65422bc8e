"""Logs of spilled stretches, and the arrangements of their racks."""

from walkingcut.errors import BadLog, NoArrangement, NoLot, OtherRack
from walkingcut.kinds import are_integers, is_lot, is_lot_below, is_within

MOST_PLACES = 40
MOST_SPILLS = 100
LAST_HAND = 11


class Log:
    """A rack of so many places, and the spills in it, one after another."""

    def __init__(self, many, spills):
        if not is_within(many, 1, MOST_PLACES):
            raise BadLog("many")
        if not are_spills(many, spills):
            raise BadLog("spills")
        self.many = many
        self.spills = spills

    def __eq__(self, other):
        return isinstance(other, Log) and self.many == other.many and self.spills == other.spills


def are_spills(many, thing):
    """Whether a thing is a tuple of spills, not more than a log is constructed with."""
    if not isinstance(thing, tuple) or len(thing) > MOST_SPILLS:
        return False
    return all([is_spill(many, part) for part in thing])


def is_spill(many, thing):
    """Whether a thing is a triple (first, last, hand) for a rack of so many places."""
    if not are_integers(thing) or len(thing) != 3:
        return False
    first, last, hand = thing
    return 0 <= first < last < many and 0 <= hand <= LAST_HAND


def log_of(many, spills):
    """A log of right spills, however many they are."""
    # Only what is constructed from outside is bounded, so the spills are set behind the constructor.
    log = Log(many, ())
    log.spills = spills
    return log


def check_racks(one_log, other_log):
    """OtherRack unless both logs have as many places."""
    if one_log.many != other_log.many:
        raise OtherRack()


def hands(log):
    """The lot of the hands of the spills."""
    return tuple(sorted({spill[2] for spill in log.spills}))


def behind(one_log, other_log):
    """The log with the spills of the one, then those of the other."""
    check_racks(one_log, other_log)
    return log_of(one_log.many, one_log.spills + other_log.spills)


def backward(log):
    """The log with the spills in turned order."""
    return log_of(log.many, log.spills[::-1])


def mirrored(log):
    """The log in which the places are counted from the other side."""
    top = log.many - 1
    return log_of(log.many, tuple([(top - last, top - first, hand) for first, last, hand in log.spills]))


def by_hands(log, lot):
    """The log with just the spills of the hands of a lot."""
    if not is_lot(lot):
        raise NoLot()
    return log_of(log.many, tuple([spill for spill in log.spills if spill[2] in lot]))


def without(log, lot):
    """The log without the spills whose numbers are in a lot."""
    if not is_lot_below(lot, len(log.spills)):
        raise NoLot()
    return log_of(log.many, tuple([spill for number, spill in enumerate(log.spills) if number not in lot]))


def home(log):
    """The arrangement in which vial k stands in place k."""
    return tuple(range(log.many))


def is_arrangement(log, thing):
    """Whether a thing is a tuple with the vial in each place, each vial once."""
    return are_integers(thing) and sorted(thing) == list(range(log.many))


def check_arrangement(log, arrangement):
    """NoArrangement unless it is one."""
    if not is_arrangement(log, arrangement):
        raise NoArrangement()


def inverse(log, arrangement):
    """The tuple with the place of each vial."""
    check_arrangement(log, arrangement)
    return places_of(arrangement)


def places_of(arrangement):
    """The place of each vial of a right arrangement."""
    places = [0] * len(arrangement)
    for place, vial in enumerate(arrangement):
        places[vial] = place
    return tuple(places)
