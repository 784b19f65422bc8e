"""Cuts that walk through a log, and what their steps to the left cost."""

from walkingcut.errors import NoWalk
from walkingcut.kinds import check_cuts, is_cut
from walkingcut.utmosts import passing, passing_table, utmost


def may_stand(spill, cut):
    """Whether a cut is not inside the stretch of a spill."""
    first, last, _ = spill
    return not first < cut <= last


def is_walk(log, thing):
    """Whether a thing is a walk through the log."""
    if not isinstance(thing, tuple) or len(thing) != len(log.spills) + 2:
        return False
    if not all([is_cut(log, part) for part in thing]):
        return False
    return all([may_stand(spill, cut) for spill, cut in zip(log.spills, thing[1:])])


def cost(walk):
    """The number of steps to the left of a right walk."""
    return sum([max(0, here - there) for here, there in zip(walk, walk[1:])])


def price(log, walk):
    """The number of steps that a walk goes left."""
    if not is_walk(log, walk):
        raise NoWalk()
    return cost(walk)


def least_price(log, begin, end):
    """The least price of a walk from one cut to another one."""
    # The third fact; what is no cut is refused there.
    return passing(log, utmost(log), begin, end)


def prices(log):
    """For each begin the tuple, for each end, of the least prices."""
    return passing_table(utmost(log))


def last_step(known, cut):
    """The pair of the least price to a cut and where to come from, if it is known what it costs to be there."""
    return min([(known[here] + max(0, here - cut), here) for here in known])


def cheapest(log, begin):
    """For the begin, then for each spill, a dict from the cuts where a walk may stand to the least price up to it."""
    known = {begin: 0}
    found = [known]
    for spill in log.spills:
        cuts = [cut for cut in range(log.many + 1) if may_stand(spill, cut)]
        known = {cut: last_step(known, cut)[0] for cut in cuts}
        found.append(known)
    return found


def walk(log, begin, end):
    """A walk with the least price from one cut to another one."""
    check_cuts(log, begin, end)
    backward_walk = [end]
    for known in reversed(cheapest(log, begin)):
        backward_walk.append(last_step(known, backward_walk[-1])[1])
    return tuple(reversed(backward_walk))


def is_too_cheap(log, arrangement, thing):
    """Whether a thing is a walk whose price is below how many pass it in a right arrangement."""
    return is_walk(log, thing) and cost(thing) < passing(log, arrangement, thing[0], thing[-1])


def walk_below(log, table):
    """A walk whose price is below what a table tells for where it begins and ends, or None."""
    for begin, row in enumerate(prices(log)):
        for end, least in enumerate(row):
            if table[begin][end] > least:
                return walk(log, begin, end)
    return None
