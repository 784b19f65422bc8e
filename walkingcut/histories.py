"""Histories: what was put back at each spill."""

from math import factorial

from walkingcut.errors import NoHistory
from walkingcut.kinds import are_integers, check_vial


def is_row(stood, thing):
    """Whether a thing is a tuple of just the vials that stood there."""
    return are_integers(thing) and sorted(thing) == sorted(stood)


def wrong_row(log, thing):
    """The number of the first row that is none, -1 for no tuple of as many rows as spills, None for a history."""
    if not isinstance(thing, tuple) or len(thing) != len(log.spills):
        return -1
    cells = list(range(log.many))
    for number, (first, last, _) in enumerate(log.spills):
        if not is_row(cells[first:last + 1], thing[number]):
            return number
        cells[first:last + 1] = list(thing[number])
    return None


def is_history(log, thing):
    """Whether a thing is a history of the log."""
    return wrong_row(log, thing) is None


def check_history(log, history):
    """NoHistory unless it is one."""
    number = wrong_row(log, history)
    if number is not None:
        raise NoHistory(number)


def rows(log, history):
    """All arrangements, from home on, one more than spills."""
    check_history(log, history)
    cells = list(range(log.many))
    found = [tuple(cells)]
    for number, (first, last, _) in enumerate(log.spills):
        cells[first:last + 1] = list(history[number])
        found.append(tuple(cells))
    return found


def end(log, history):
    """The arrangement behind the history."""
    return rows(log, history)[-1]


def trail(log, history, vial):
    """The places of a vial, from its first one on."""
    arrangements = rows(log, history)
    check_vial(log, vial)
    return [arrangement.index(vial) for arrangement in arrangements]


def led(log, put):
    """The history whose rows a function gives, of the number of a spill and of what stands in its places."""
    cells = list(range(log.many))
    history = []
    for number, (first, last, _) in enumerate(log.spills):
        stood = tuple(cells[first:last + 1])
        row = put(number, stood)
        if not is_row(stood, row):
            raise NoHistory(number)
        cells[first:last + 1] = list(row)
        history.append(row)
    return tuple(history)


def many_histories(log):
    """The number of all histories."""
    number = 1
    for first, last, _ in log.spills:
        number = number * factorial(last - first + 1)
    return number


def touched(log, history):
    """The lot of the numbers of the spills whose row is not what stood there."""
    arrangements = rows(log, history)
    return tuple([number for number in range(len(log.spills)) if arrangements[number] != arrangements[number + 1]])
