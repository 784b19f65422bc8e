"""Colours: what can be seen if only the colours of the vials are."""

from walkingcut.claims import filled
from walkingcut.cuts import is_too_cheap, prices, walk_below
from walkingcut.errors import NoColours, NoSeen, TooMany
from walkingcut.kinds import are_within
from walkingcut.sorting import can_come, history_for
from walkingcut.utmosts import passing_table

LAST_COLOUR = 9
MOST_PLACES_GONE_THROUGH = 8


def check_colours(log, colours):
    """NoColours unless they are."""
    if not are_within(colours, log.many, 0, LAST_COLOUR):
        raise NoColours()


def least_seen(log, colours, seen):
    """The arrangement in which the vials of each colour stand in order where it is seen."""
    check_colours(log, colours)
    if not are_within(seen, log.many, 0, LAST_COLOUR) or sorted(seen) != sorted(colours):
        raise NoSeen()
    vials = sorted([(colour, vial) for vial, colour in enumerate(colours)])
    places = sorted([(colour, place) for place, colour in enumerate(seen)])
    return filled(log.many, [(vial, place) for (_, vial), (_, place) in zip(vials, places)])


def can_be_seen(log, colours, seen):
    """Whether some arrangement that can come shows these colours."""
    # To swap two vials of a colour that stand the wrong way round brings an arrangement further down: so the least
    # one is below all others that show the colours.
    return can_come(log, least_seen(log, colours, seen))


def history_seen(log, colours, seen):
    """A history whose end shows the colours, or None."""
    return history_for(log, least_seen(log, colours, seen))


def bar_seen(log, colours, seen):
    """A walk that is too cheap for how many vials must have passed it to show the colours, or None."""
    return walk_below(log, passing_table(least_seen(log, colours, seen)))


def is_bar_seen(log, colours, seen, thing):
    """Whether a thing is a walk that is too cheap for the colours."""
    return is_too_cheap(log, least_seen(log, colours, seen), thing)


def check_few_places(log, colours):
    """NoColours unless they are, TooMany if all that is seen is too much."""
    check_colours(log, colours)
    if log.many > MOST_PLACES_GONE_THROUGH:
        raise TooMany(MOST_PLACES_GONE_THROUGH)


def many_seen(log, colours):
    """The number of all that can be seen."""
    return len(all_seen(log, colours))


def all_seen(log, colours):
    """The ascending list of all that can be seen."""
    check_few_places(log, colours)
    table = prices(log)
    palette = sorted(set(colours))
    known = {}
    found = [()]
    for _ in range(log.many):
        longer = [row + (colour,) for row in found for colour in palette if row.count(colour) < colours.count(colour)]
        found = [row for row in longer if is_open(table, colours, row, known)]
    return found


def is_open(table, colours, begun, known):
    """Whether what is seen in the first places is barred by no walk that ends behind them."""
    # How often such a walk is passed depends on how often each colour stands there alone, so each is asked once.
    counted = tuple(sorted(begun))
    if counted not in known:
        known[counted] = all([
            more_below(colours[:begin], counted) <= row[len(counted)] for begin, row in enumerate(table)
        ])
    return known[counted]


def more_below(below, shown):
    """The sum, over all colours, of how many more vials below a cut have it than places left of a cut show it."""
    return sum([max(0, below.count(colour) - shown.count(colour)) for colour in sorted(set(below))])
