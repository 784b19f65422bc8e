"""Prices of logs behind one another, and of a log many times behind itself."""

from walkingcut.errors import NoNumber, NoPrices
from walkingcut.kinds import are_integers, is_within
from walkingcut.utmosts import passing_table, turned_down, utmost

LEAST_SIDE = 2
MOST_SIDE = 41
MOST_TIMES = 10 ** 30


def is_square(thing):
    """Whether a thing is a square tuple of tuples of integers from 0 on, of a side that prices can have."""
    if not isinstance(thing, tuple) or not LEAST_SIDE <= len(thing) <= MOST_SIDE:
        return False
    return all([is_side(part, len(thing)) for part in thing])


def is_side(thing, length):
    """Whether a thing is a tuple of so many integers from 0 on."""
    return are_integers(thing) and len(thing) == length and min(thing) >= 0


def prices_behind(one, other):
    """For each begin and end the least sum of one's price to some cut and other's price from there."""
    if not is_square(one) or not is_square(other) or len(one) != len(other):
        raise NoPrices()
    columns = list(zip(*other))
    return tuple([tuple([least_sum(row, column) for column in columns]) for row in one])


def least_sum(row, column):
    """The least sum of two numbers that stand side by side."""
    return min([to_cut + from_cut for to_cut, from_cut in zip(row, column)])


def utmosts_again(log, most):
    """The utmost arrangements of the log once, twice and so on, until they are still or it is done the most times."""
    found = [utmost(log)]
    # Each further one has more pairs the wrong way round, so that this ends long before the most times.
    while len(found) < most:
        further = turned_down(log, found[-1])
        if further == found[-1]:
            return found
        found.append(further)
    return found


def prices_again(log, times):
    """The prices of the log so many times behind itself."""
    if not is_within(times, 1, MOST_TIMES):
        raise NoNumber()
    return passing_table(utmosts_again(log, times)[-1])


def times_still(log):
    """The least number of times from which on the prices do not change."""
    return len(utmosts_again(log, MOST_TIMES))
