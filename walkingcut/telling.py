"""What claims that can be true tell of other vials, and which of too many claims can be true."""

from itertools import combinations

from walkingcut.claims import check_claims, fit
from walkingcut.cuts import prices
from walkingcut.errors import Barred, TooMany
from walkingcut.kinds import check_place, check_vial

MOST_CLAIMS = 12


def open_table(log, claims):
    """The table of prices, if the claims can be true."""
    check_claims(log, claims)
    table = prices(log)
    if not fit(table, claims):
        raise Barred()
    return table


def goes_with(table, claims, vial, place):
    """Whether a claim can be true together with claims that can."""
    for claimed_vial, claimed_place in claims:
        if vial == claimed_vial or place == claimed_place:
            return vial == claimed_vial and place == claimed_place
    return fit(table, claims + ((vial, place),))


def open_places(table, claims, vial):
    """The lot of the places where a vial can be."""
    return tuple([place for place in range(len(table) - 1) if goes_with(table, claims, vial, place)])


def places_for(log, claims, vial):
    """The lot of the places where a vial can be if the claims are true."""
    table = open_table(log, claims)
    check_vial(log, vial)
    return open_places(table, claims, vial)


def vials_for(log, claims, place):
    """The lot of the vials that can be in a place if the claims are true."""
    table = open_table(log, claims)
    check_place(log, place)
    return tuple([vial for vial in range(log.many) if goes_with(table, claims, vial, place)])


def word(log, claims, vial, place):
    """How sure it is that a vial is in a place if the claims are true."""
    table = open_table(log, claims)
    check_vial(log, vial)
    check_place(log, place)
    places = open_places(table, claims, vial)
    if place not in places:
        return "never"
    return "surely" if len(places) == 1 else "open"


def sure(log, claims):
    """The claims that are sure if the claims are true."""
    table = open_table(log, claims)
    found = [(vial, open_places(table, claims, vial)) for vial in range(log.many)]
    return tuple([(vial, places[0]) for vial, places in found if len(places) == 1])


def check_few(log, claims):
    """NoClaims unless they are claims, TooMany if all parts of them are too many."""
    check_claims(log, claims)
    if len(claims) > MOST_CLAIMS:
        raise TooMany(MOST_CLAIMS)


def is_tight(table, claims):
    """Whether claims cannot be true, while all of them but any one can."""
    if fit(table, claims):
        return False
    return all([fit(table, claims[:number] + claims[number + 1:]) for number in range(len(claims))])


def least_barred(log, claims):
    """The least list of some of the claims that cannot be true, while all but any one can; None if all can be true."""
    check_few(log, claims)
    table = prices(log)
    if fit(table, claims):
        return None
    listed = list(claims)
    tight = []
    for size in range(1, len(claims) + 1):
        tight.extend([part for part in combinations(listed, size) if is_tight(table, part)])
    return min(tight)


def most_true(log, claims):
    """The greatest number of claims of a list that can be true together."""
    return len(true_lot(log, claims))


def true_lot(log, claims):
    """As many claims of a list as can be true together."""
    check_few(log, claims)
    table = prices(log)
    listed = list(claims)
    for size in range(len(claims), 0, -1):
        for part in combinations(listed, size):
            if fit(table, part):
                return part
    return ()
