"""Some vials and some places of a mixing: how many of the ones can stand in the others, and what bars more."""

from walkingcut.errors import NoPlaces, NoVials
from walkingcut.kinds import are_integers, is_lot_below, is_within

# Each stay has two sides, one that is come to and one that is gone from: only one way leads from the one to the other.
COMING = 0
GOING = 1


def check_lots(mixing, vials, places):
    """NoVials and NoPlaces unless they are lots of them."""
    if not is_lot_below(vials, mixing.many):
        raise NoVials()
    if not is_lot_below(places, mixing.many):
        raise NoPlaces()


def places_behind(mixing, number, place):
    """The places in which a vial can be behind a lot, if it is known where it was ahead of it."""
    lot = mixing.lots[number]
    return lot if place in lot else (place,)


def most_among(mixing, vials, places):
    """The greatest number of the vials that can stand in places of the lot at the end."""
    return len(ways_among(mixing, vials, places))


def ways_among(mixing, vials, places):
    """As many ways from unlike vials' first places to unlike places, no two in one place at one moment."""
    check_lots(mixing, vials, places)
    ways = []
    found = way_through(mixing, vials, places, ways)
    while found is not None:
        ways = with_one_more(mixing, ways, found)
        found = way_through(mixing, vials, places, ways)
    return sorted(ways)


def bar_among(mixing, vials, places):
    """As many stays, such that each way from a vial's first place to one of the places has one of them."""
    came = reached(mixing, vials, ways_among(mixing, vials, places))
    # What is come to, but not gone from, parts all that is reached from all that is not.
    return tuple(sorted([(number, place) for number, place, _ in came if (number, place, GOING) not in came]))


def reached(mixing, vials, ways):
    """For each side of a stay that one more way can come by, if others give way for it, the side ahead of it."""
    ahead = {(number, way[number]): way[number - 1] for way in ways for number in range(1, len(way))}
    stayed = {(number, place): True for way in ways for number, place in enumerate(way)}
    came = {(0, vial, COMING): None for vial in vials}
    newest = list(came)
    while newest:
        found = []
        for side in newest:
            for further in sides_behind(mixing, ahead, stayed, side):
                if further not in came:
                    came[further] = side
                    found.append(further)
        newest = found
    return came


def sides_behind(mixing, ahead, stayed, side):
    """The sides to which one more way can go on from a side."""
    number, place, kind = side
    if kind == COMING:
        if (number, place) not in stayed:
            return [(number, place, GOING)]
        # Another way stays here: that one can be left to go on from here, and be led elsewhere from where it came.
        return [(number - 1, ahead[number, place], GOING)] if number > 0 else []
    found = [(number, place, COMING)] if (number, place) in stayed else []
    if number < len(mixing.lots):
        found.extend([(number + 1, further, COMING) for further in places_behind(mixing, number, place)])
    return found


def way_through(mixing, vials, places, ways):
    """The sides, from a vial's first place on, by which one more way can come to one of the places, or None."""
    came = reached(mixing, vials, ways)
    ends = [(len(mixing.lots), place, GOING) for place in places]
    ends = [side for side in ends if side in came]
    if not ends:
        return None
    found = [ends[0]]
    while came[found[-1]] is not None:
        found.append(came[found[-1]])
    return found[::-1]


def with_one_more(mixing, ways, sides):
    """The ways, of which some give way, and one more, that came by the told sides."""
    onward = {(number, way[number]): way[number + 1] for way in ways for number in range(len(mixing.lots))}
    # What is told of stays that are left altogether may stand: no way comes to them any more.
    for (number, place, _), (further_number, further_place, _) in zip(sides, sides[1:]):
        if further_number > number:
            onward[number, place] = further_place
    starts = [way[0] for way in ways] + [sides[0][1]]
    return [way_from(mixing, onward, start) for start in starts]


def way_from(mixing, onward, start):
    """The way from a place on, if it is told where each stay leads."""
    way = [start]
    for number in range(len(mixing.lots)):
        way.append(onward[number, way[-1]])
    return tuple(way)


def is_stay(mixing, thing):
    """Whether a thing is a pair of a moment and a place."""
    if not are_integers(thing) or len(thing) != 2:
        return False
    return is_within(thing[0], 0, len(mixing.lots)) and is_within(thing[1], 0, mixing.many - 1)


def is_bar_among(mixing, vials, places, thing):
    """Whether a thing is an ascending tuple of stays such that each way from the vials to the places has one."""
    check_lots(mixing, vials, places)
    if not isinstance(thing, tuple) or not all([is_stay(mixing, part) for part in thing]):
        return False
    if list(thing) != sorted(set(thing)):
        return False
    return not leads_by(mixing, vials, places, thing)


def leads_by(mixing, vials, places, stays):
    """Whether some way from a vial's first place to one of the places has none of the stays."""
    barred = {stay: True for stay in stays}
    here = [vial for vial in vials if (0, vial) not in barred]
    for number in range(len(mixing.lots)):
        found = {further: True for place in here for further in places_behind(mixing, number, place)}
        here = [place for place in found if (number + 1, place) not in barred]
    return any([place in places for place in here])
