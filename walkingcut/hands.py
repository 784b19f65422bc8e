"""Hands: who must have mixed, and what need not have been, for claims to be true."""

from itertools import combinations, permutations

from walkingcut.claims import can_be, check_claims, history_of, least_arrangement
from walkingcut.comparing import spared
from walkingcut.errors import NoHand, TooMany
from walkingcut.histories import led
from walkingcut.kinds import is_within
from walkingcut.logs import LAST_HAND, by_hands, hands, home, log_of
from walkingcut.sorting import can_come

MOST_PLACES_GONE_THROUGH = 6


def enough_hands(log, claims, lot):
    """Whether claims can be true if only the hands of a lot ever mixed."""
    check_claims(log, claims)
    return can_be(by_hands(log, lot), claims)


def must_hands(log, claims):
    """The lot of the hands of the log without each of whom claims cannot be true."""
    least = least_arrangement(log, claims)
    lot = hands(log)
    return tuple([hand for hand in lot if not can_come(by_hands(log, left_out(lot, hand)), least)])


def left_out(lot, hand):
    """A lot without one of its numbers."""
    return tuple([other for other in lot if other != hand])


def least_hands(log, claims):
    """The ascending list of all lots of hands of the log that are enough, and no part of which is."""
    least = least_arrangement(log, claims)
    listed = list(hands(log))
    found = []
    for size in range(len(listed) + 1):
        lots = [lot for lot in combinations(listed, size) if not has_part(found, lot)]
        found.extend([lot for lot in lots if can_come(by_hands(log, lot), least)])
    return sorted(found)


def has_part(parts, lot):
    """Whether all numbers of one of some lots are in a lot."""
    return any([all([number in lot for number in part]) for part in parts])


def must_spills(log, claims):
    """The lot of the numbers of the spills without each of which claims cannot be true."""
    can_go = {number: True for number in spared(log, least_arrangement(log, claims))}
    return tuple([number for number in range(len(log.spills)) if number not in can_go])


def fewest_mixed(log, claims):
    """The pair of the least number of spills touched for claims to be true, and a history of it; or None."""
    check_claims(log, claims)
    if log.many > MOST_PLACES_GONE_THROUGH:
        raise TooMany(MOST_PLACES_GONE_THROUGH)
    mixed = {home(log): ()}
    for number, spill in enumerate(log.spills):
        mixed = behind_spill(mixed, number, spill)
    right = [row for row in mixed if all([row[place] == vial for vial, place in claims])]
    if not right:
        return None
    fewest = min([len(mixed[row]) for row in right])
    goal = min([row for row in right if len(mixed[row]) == fewest])
    return fewest, history_told(log, dict(list(mixed[goal])))


def behind_spill(mixed, number, spill):
    """For each arrangement behind a spill as few touched spills as can be, with their rows; mixed is it ahead of it."""
    first, last, _ = spill
    found = {row: mixed[row] for row in mixed}
    for row in cheapest_outside(mixed, first, last):
        stood = list(row[first:last + 1])
        for put in permutations(stood):
            further = row[:first] + put + row[last + 1:]
            if further not in found or len(found[further]) > len(mixed[row]) + 1:
                found[further] = mixed[row] + ((number, put),)
    return found


def cheapest_outside(mixed, first, last):
    """For each way in which the places outside a stretch can stand an arrangement for which fewest are touched."""
    best = {}
    for row in mixed:
        outside = row[:first] + row[last + 1:]
        if outside not in best or len(mixed[row]) < len(mixed[best[outside]]):
            best[outside] = row
    return list(best.values())


def history_told(log, told):
    """The history in which the spills that a dict tells have its rows, and no other one is touched."""
    return led(log, lambda number, vials: told.get(number, vials))


def cleared(log, claims, hand):
    """A history whose end has claims and in which no spill of a hand is touched, or None."""
    check_claims(log, claims)
    if not is_within(hand, 0, LAST_HAND):
        raise NoHand()
    numbers = [number for number, spill in enumerate(log.spills) if spill[2] != hand]
    history = history_of(log_of(log.many, tuple([log.spills[number] for number in numbers])), claims)
    return None if history is None else history_told(log, dict(zip(numbers, history)))
