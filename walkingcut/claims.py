"""Claims: whether they can all be true, and what bars them."""

from walkingcut.cuts import cost, is_walk, walk_below
from walkingcut.errors import NoClaims
from walkingcut.kinds import are_integers, check_cuts, is_one_of
from walkingcut.sorting import can_come, history_for
from walkingcut.utmosts import stays_under


def is_claim(log, thing):
    """Whether a thing is a pair of a vial and a place."""
    return are_integers(thing) and len(thing) == 2 and is_one_of(log, thing[0]) and is_one_of(log, thing[1])


def is_claims(log, thing):
    """Whether a thing is an ascending tuple of claims in which no vial and no place stands twice."""
    if not isinstance(thing, tuple) or not all([is_claim(log, part) for part in thing]):
        return False
    vials = [vial for vial, _ in thing]
    places = [place for _, place in thing]
    return vials == sorted(set(vials)) and len(set(places)) == len(places)


def check_claims(log, claims):
    """NoClaims unless they are claims."""
    if not is_claims(log, claims):
        raise NoClaims()


def filled(many, claims):
    """The arrangement of right claims in which all other vials stand in order; the claims may stand in any order."""
    standing = {place: vial for vial, place in claims}
    claimed = {vial: place for vial, place in claims}
    vials = [vial for vial in range(many) if vial not in claimed]
    places = [place for place in range(many) if place not in standing]
    for place, vial in zip(places, vials):
        standing[place] = vial
    return tuple([standing[place] for place in range(many)])


def fit(table, claims):
    """Whether right claims can be true by the log that has the table of prices."""
    # The fourth and the second fact: no spill needs to be gone through again for further claims about one log.
    return stays_under(table, filled(len(table) - 1, claims))


def least_arrangement(log, claims):
    """The arrangement in which the claims are true, and all other vials stand in order in the other places."""
    check_claims(log, claims)
    return filled(log.many, claims)


def can_be(log, claims):
    """Whether some arrangement that can come has all claims."""
    return can_come(log, least_arrangement(log, claims))


def history_of(log, claims):
    """A history whose end has the claims, or None."""
    return history_for(log, least_arrangement(log, claims))


def crossing(claims, begin, end):
    """The pair of how many right claims go rightward through two cuts, and how many leftward."""
    going = len([vial for vial, place in claims if vial < begin and place >= end])
    coming = len([vial for vial, place in claims if vial >= begin and place < end])
    return going, coming


def times_passed(claims, begin, end):
    """How often right claims pass a walk from one cut to another one."""
    going, coming = crossing(claims, begin, end)
    return max(going, begin - end + coming)


def passed(log, claims, begin, end):
    """How often claims pass a walk from one cut to another one."""
    check_claims(log, claims)
    check_cuts(log, begin, end)
    return times_passed(claims, begin, end)


def bar(log, claims):
    """A walk that the claims pass more often than its price, or None."""
    check_claims(log, claims)
    cuts = list(range(log.many + 1))
    return walk_below(log, [[times_passed(claims, begin, end) for end in cuts] for begin in cuts])


def is_bar(log, claims, thing):
    """Whether a thing is a walk that the claims pass more often than its price."""
    check_claims(log, claims)
    return is_walk(log, thing) and times_passed(claims, thing[0], thing[-1]) > cost(thing)
