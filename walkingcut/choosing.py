"""Choices: some vials each stand in one of some places."""

from walkingcut.claims import fit
from walkingcut.cuts import prices
from walkingcut.errors import NoChoices, TooMany
from walkingcut.kinds import is_lot_below, is_one_of

MOST_WAYS = 2000


def is_choice(log, thing):
    """Whether a thing is a pair of a vial and a lot of one place or more."""
    if not isinstance(thing, tuple) or len(thing) != 2:
        return False
    vial, places = thing
    return is_one_of(log, vial) and is_lot_below(places, log.many) and len(places) > 0


def are_choices(log, thing):
    """Whether a thing is a tuple of choices, ascending, of unlike vials."""
    if not isinstance(thing, tuple) or not all([is_choice(log, part) for part in thing]):
        return False
    vials = [vial for vial, _ in thing]
    return vials == sorted(set(vials))


def check_choices(log, choices):
    """NoChoices unless they are, TooMany if there are too many ways to choose."""
    if not are_choices(log, choices):
        raise NoChoices()
    ways = 1
    for _, places in choices:
        ways = ways * len(places)
    if ways > MOST_WAYS:
        raise TooMany(MOST_WAYS)


def all_chosen(choices):
    """The ascending list of all claims that choose a place for each vial."""
    found = [()]
    for vial, places in choices:
        longer = [(claims, place) for claims in found for place in places]
        found = [claims + ((vial, place),) for claims, place in longer if is_free(claims, place)]
    return found


def is_free(claims, place):
    """Whether a place is in no claim."""
    return all([place != taken for _, taken in claims])


def all_either(log, choices):
    """The ascending list of all claims that choose a place for each vial and can be true."""
    check_choices(log, choices)
    table = prices(log)
    return [claims for claims in all_chosen(choices) if fit(table, claims)]


def either(log, choices):
    """The least claims that choose a place for each vial and can be true, or None."""
    found = all_either(log, choices)
    return found[0] if found else None


def many_either(log, choices):
    """The number of all claims that choose a place for each vial and can be true."""
    return len(all_either(log, choices))
