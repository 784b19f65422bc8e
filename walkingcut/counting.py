"""Arrangements counted: how many can come, and which one has which number when they are ascending."""

from itertools import combinations

from walkingcut.claims import check_claims
from walkingcut.crates import is_open
from walkingcut.cuts import prices
from walkingcut.errors import NeverComes, NoNumber, TooMany
from walkingcut.kinds import is_within
from walkingcut.logs import check_arrangement, home
from walkingcut.sorting import can_come
from walkingcut.utmosts import stays_under

MOST_PLACES_GONE_THROUGH = 8
MOST_LISTED = 5040


def check_few_places(log):
    """TooMany if all that can come is too much to count."""
    if log.many > MOST_PLACES_GONE_THROUGH:
        raise TooMany(MOST_PLACES_GONE_THROUGH)


def ways_on(log, claims):
    """For each lot of vials in the first places in how many ways the others can stand behind them with the claims."""
    # The second fact asks, for each cut, only which vials stand left of it, and not how they stand there.
    table = prices(log)
    ways = {home(log): 1}
    for size in range(log.many - 1, -1, -1):
        vials = [vial for vial in range(log.many) if agrees(claims, vial, size)]
        for lot in combinations(range(log.many), size):
            if is_open(table, lot):
                ways[lot] = sum([ways_with(ways, lot, vial) for vial in vials])
    return ways


def agrees(claims, vial, place):
    """Whether claims say of a vial and a place that they go together, or nothing of either."""
    return all([(vial == claimed) == (place == taken) for claimed, taken in claims])


def ways_with(ways, begun, vial):
    """In how many ways it can go on behind the vials in the first places and one more."""
    # A vial that is among them already makes no lot, and so no way.
    return ways.get(tuple(sorted(begun + (vial,))), 0)


def number_with(log, claims):
    """The number of the arrangements that can come and have right claims."""
    check_few_places(log)
    return ways_on(log, claims)[()]


def many_arrangements(log):
    """The number of the arrangements that can come."""
    return number_with(log, ())


def many_with(log, claims):
    """The number of the arrangements that can come and have claims."""
    check_claims(log, claims)
    return number_with(log, claims)


def arrangement_at(log, number):
    """The arrangement with a number, of those that can come in ascending order."""
    check_few_places(log)
    ways = ways_on(log, ())
    if not is_within(number, 0, ways[()] - 1):
        raise NoNumber()
    row, left = (), number
    for _ in range(log.many):
        vial, left = vial_behind(ways, row, left)
        row = row + (vial,)
    return row


def vial_behind(ways, begun, number):
    """The vial behind a row in the arrangement with a number of those that begin so, and its number with that vial."""
    vial = 0
    while number >= ways_with(ways, begun, vial):
        number -= ways_with(ways, begun, vial)
        vial += 1
    return vial, number


def arrangement_number(log, arrangement):
    """The number of an arrangement, of those that can come in ascending order."""
    check_few_places(log)
    if not can_come(log, arrangement):
        raise NeverComes()
    ways = ways_on(log, ())
    smaller = [(place, vial) for place in range(log.many) for vial in range(arrangement[place])]
    return sum([ways_with(ways, arrangement[:place], vial) for place, vial in smaller])


def all_arrangements(log):
    """The ascending list of the arrangements that can come."""
    check_few_places(log)
    ways = ways_on(log, ())
    if ways[()] > MOST_LISTED:
        raise TooMany(MOST_LISTED)
    found = [()]
    for _ in range(log.many):
        found = [row + (vial,) for row in found for vial in range(log.many) if ways_with(ways, row, vial) > 0]
    return found


def next_one(log, arrangement):
    """The least arrangement that can come and is greater than a told one, or None."""
    check_arrangement(log, arrangement)
    table = prices(log)
    for place in range(log.many - 1, -1, -1):
        for row in least_greater(arrangement, place):
            if stays_under(table, row):
                return row
    return None


def least_greater(arrangement, place):
    """The ascending list of the rows that are greater from a place on, with all vials behind it in order."""
    # The fourth fact: if any arrangement that begins so can come, then the one in which all others stand in order.
    others = sorted(arrangement[place:])
    return [
        arrangement[:place] + (vial,) + tuple([other for other in others if other != vial])
        for vial in others if vial > arrangement[place]
    ]
