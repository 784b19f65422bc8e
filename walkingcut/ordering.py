"""Which of two vials stands left, as far as claims tell."""

from walkingcut.claims import filled, fit
from walkingcut.errors import NoVial
from walkingcut.kinds import check_vial
from walkingcut.telling import open_table


def left_word(log, claims, one, other):
    """How sure it is that the one vial stands left of the other one if the claims are true."""
    table = open_table(log, claims)
    check_vial(log, one)
    check_vial(log, other)
    if one == other:
        raise NoVial()
    if not can_stand_left(table, claims, one, other):
        return "never"
    return "open" if can_stand_left(table, claims, other, one) else "surely"


def left_pairs(log, claims):
    """The ascending list of the pairs of vials of which surely the first stands left of the second."""
    table = open_table(log, claims)
    vials = list(range(log.many))
    pairs = [(one, other) for one in vials for other in vials if one != other]
    return [(one, other) for one, other in pairs if not can_stand_left(table, claims, other, one)]


def can_stand_left(table, claims, one, other):
    """Whether the one vial can stand left of the other one, together with claims that can be true."""
    least = filled(len(table) - 1, claims)
    if least.index(one) < least.index(other):
        return True
    for place, other_place in places_to_try(least, claims, one, other):
        if fit(table, claims + ((one, place), (other, other_place))):
            return True
    return False


def places_to_try(least, claims, one, other):
    """Pairs of places for the one and the other, the one left, of which one can be if any can."""
    claimed = {vial: place for vial, place in claims}
    free = [place for place, vial in enumerate(least) if vial not in claimed]
    if one in claimed and other in claimed:
        return []
    if one in claimed:
        return [(claimed[one], place) for place in free if place > claimed[one]]
    if other in claimed:
        return [(place, claimed[other]) for place in free if place < claimed[other]]
    # To swap two unclaimed vials that stand the wrong way round brings an arrangement further down. Where no such
    # swap is left but one that would part the two, they stand side by side among the unclaimed ones, and these
    # in order: so the two stand between the places that they have in the least arrangement.
    between = free[free.index(least.index(other)):free.index(least.index(one)) + 1]
    return list(zip(between, between[1:]))
