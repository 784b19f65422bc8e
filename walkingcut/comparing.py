"""Logs compared: which are alike, which spills are needless, how far single vials can have come."""

from walkingcut.kinds import check_vial
from walkingcut.logs import check_racks, home, log_of
from walkingcut.utmosts import passing_table, put_down, stays_under, utmost


def alike(one_log, other_log):
    """Whether the same arrangements can come by both."""
    check_racks(one_log, other_log)
    # The second fact: a log is one utmost arrangement.
    return utmost(one_log) == utmost(other_log)


def never_more(one_log, other_log):
    """Whether all that can come by the one can come by the other."""
    return parting(one_log, other_log) is None


def parting(one_log, other_log):
    """An arrangement that can come by the one and not by the other, or None."""
    check_racks(one_log, other_log)
    top = utmost(one_log)
    if stays_under(passing_table(utmost(other_log)), top):
        return None
    return top


def left_to_reach(log, arrangement):
    """For each spill what comes of an arrangement when the stretches behind it are sorted back."""
    cells = list(arrangement)
    found = []
    for first, last, _ in reversed(log.spills):
        found.append(tuple(cells))
        cells[first:last + 1] = sorted(cells[first:last + 1])
    return found[::-1]


def can_spare(top, goal):
    """Whether a goal behind a spill can be reached without it, if all before leads to just what is below a top."""
    return stays_under(passing_table(top), goal)


def spared(log, arrangement):
    """The lot of the numbers of the spills without each of which, by itself, an arrangement can come."""
    top = home(log)
    found = []
    for number, goal in enumerate(left_to_reach(log, arrangement)):
        if can_spare(top, goal):
            found.append(number)
        top = put_down(top, log.spills[number])
    return tuple(found)


def needless(log):
    """The lot of the numbers of the spills without each of which, by itself, the log is alike."""
    # Without a spill no more can come, so that a log is alike if the utmost arrangement still can.
    return spared(log, utmost(log))


def bare(log):
    """What is left of a log if, again and again, the first needless spill is taken out."""
    # Once is enough to go through: a spill that is not needless does not become so when others are taken out.
    top = home(log)
    kept = []
    for spill, goal in zip(log.spills, left_to_reach(log, utmost(log))):
        if not can_spare(top, goal):
            kept.append(spill)
            top = put_down(top, spill)
    return log_of(log.many, tuple(kept))


def stretch(log, vial):
    """The pair of the least and the greatest place to which a vial can have come."""
    check_vial(log, vial)
    least = most = vial
    for first, last, _ in log.spills:
        if first <= most and least <= last:
            least, most = min(least, first), max(most, last)
    return least, most


def same_alone(one_log, other_log):
    """Whether each vial has the same stretch by both."""
    check_racks(one_log, other_log)
    return all([stretch(one_log, vial) == stretch(other_log, vial) for vial in range(one_log.many)])


def apart(log):
    """The ascending list of the pairs of the first and the last place of the stretches into which the rack falls."""
    inner = [cut for cut in range(1, log.many) if not is_crossed(log, cut)]
    return [(first, end - 1) for first, end in zip([0] + inner, inner + [log.many])]


def is_crossed(log, cut):
    """Whether a cut is inside the stretch of some spill."""
    return any([first < cut <= last for first, last, _ in log.spills])
