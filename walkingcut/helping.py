"""Helping: one more spill with which claims can be true."""

from walkingcut.claims import least_arrangement
from walkingcut.cuts import prices
from walkingcut.errors import NoNumber
from walkingcut.kinds import is_within
from walkingcut.logs import log_of
from walkingcut.sorting import sorted_back
from walkingcut.utmosts import stays_under


def helpers(log, claims):
    """The ascending list of the stretches, as short as can be, that help if they are spilled behind the log."""
    return stretches_that_help(log, least_arrangement(log, claims), len(log.spills))


def helpers_at(log, claims, number):
    """The ascending list of the stretches, as short as can be, that help if they are spilled ahead of a spill."""
    least = least_arrangement(log, claims)
    if not is_within(number, 0, len(log.spills)):
        raise NoNumber()
    return stretches_that_help(log, least, number)


def stretches_that_help(log, least, number):
    """The stretches, as short as can be, with which an arrangement can come if they are spilled at a number."""
    table = prices(log_of(log.many, log.spills[:number]))
    goal = sorted_back(log_of(log.many, log.spills[number:]), least)
    stretches = [(first, last) for first in range(log.many) for last in range(first + 1, log.many)]
    helpful = {pair: True for pair in stretches if helps(table, goal, pair)}
    # A longer stretch helps wherever a part of it does: so one is as short as can be if neither next shorter one helps.
    return [
        (first, last) for first, last in stretches
        if (first, last) in helpful and (first + 1, last) not in helpful and (first, last - 1) not in helpful
    ]


def helps(table, goal, pair):
    """Whether a goal can be reached by one more stretch behind a log that has the table of prices."""
    first, last = pair
    return stays_under(table, goal[:first] + tuple(sorted(goal[first:last + 1])) + goal[last + 1:])
