"""How many claims must be held side by side to see that they cannot all be true."""

from walkingcut.claims import crossing, filled, fit, is_claims
from walkingcut.cuts import prices
from walkingcut.errors import NoNumber
from walkingcut.kinds import check_cuts, is_integer
from walkingcut.logs import check_arrangement, places_of
from walkingcut.utmosts import passing_table, utmost


def needed(log):
    """The ascending list of the pairs of cuts at which it is enough to count."""
    top = utmost(log)
    places = places_of(top)
    cuts = list(range(1, log.many))
    return [(begin, end) for begin in cuts for end in cuts if turns_at(top, places, begin, end)]


def turns_at(top, places, begin, end):
    """Whether the vials and the places beside both cuts lie as they must at a needed pair."""
    return places[begin - 1] < end <= places[begin] and top[end - 1] < begin <= top[end]


def loads_in(table, begin, end):
    """The loads at two cuts, told by the table of prices."""
    # The places left of the end hold the vials below begin that do not pass, and as many others as are left over.
    return table[begin][end], end - begin + table[begin][end]


def loads(log, begin, end):
    """How many vials pass two cuts rightward, and how many leftward, in the utmost arrangement."""
    check_cuts(log, begin, end)
    return loads_in(prices(log), begin, end)


def needed_loads(log):
    """The list of the needed pairs, each with its loads."""
    table = prices(log)
    return [((begin, end), loads_in(table, begin, end)) for begin, end in needed(log)]


def below_by(log, arrangement):
    """Whether at each needed pair no more pass in an arrangement than in the utmost one."""
    check_arrangement(log, arrangement)
    table = prices(log)
    passed_by = passing_table(arrangement)
    return all([passed_by[begin][end] <= table[begin][end] for begin, end in needed(log)])


def depth(log):
    """The least number that is enough."""
    # The sixth fact, here and in depth_for_all.
    return 1 + max([max(both) for _, both in needed_loads(log)], default=0)


def depth_for_all(log):
    """The least number that is enough for all."""
    return 1 + max([min(both) for _, both in needed_loads(log)], default=0)


def check_number(k):
    """NoNumber unless it is an integer from 1 on."""
    if not is_integer(k) or k < 1:
        raise NoNumber()


def rightward(pair, load):
    """Claims of one vial more than the load that go rightward through a pair of cuts."""
    # They go in order and as near to both cuts as can be, so that there are too many of them at this pair alone.
    begin, end = pair
    return tuple([(begin - 1 - load + step, end + step) for step in range(load + 1)])


def leftward(pair, load):
    """Claims of one vial more than the load that go leftward through a pair of cuts, likewise."""
    begin, end = pair
    return tuple([(begin + step, end - 1 - load + step) for step in range(load + 1)])


def deep_claims(log, k):
    """Claims that cannot be true, while each k of them can, or None."""
    check_number(k)
    for pair, (right_load, left_load) in needed_loads(log):
        if right_load >= k:
            return rightward(pair, right_load)
        if left_load >= k:
            return leftward(pair, left_load)
    return None


def deep_arrangement(log, k):
    """An arrangement that cannot come, while each k of its claims can be true, or None."""
    check_number(k)
    for pair, both in needed_loads(log):
        if min(both) >= k:
            # Here too many pass at this pair alone, and as neither load is below k, no k of the claims show it.
            return filled(log.many, rightward(pair, both[0]))
    return None


def is_deep(log, k, thing):
    """Whether a thing are claims that cannot be true, while each k of them can."""
    check_number(k)
    if not is_claims(log, thing):
        return False
    table = prices(log)
    return not fit(table, thing) and each_fit(table, k, thing)


def each_fit(table, k, claims):
    """Whether each k of right claims, and each fewer, can be true by the log that has the table of prices."""
    # The fifth fact: what bars some of them passes one pair of cuts in one direction, too often for its load.
    cuts = list(range(len(table)))
    return all([holds(loads_in(table, begin, end), k, crossing(claims, begin, end)) for begin in cuts for end in cuts])


def holds(both_loads, k, both_counts):
    """Whether k of the claims that pass two cuts, or all if they are fewer, are in neither direction too many."""
    return all([min(k, count) <= load for load, count in zip(both_loads, both_counts)])
