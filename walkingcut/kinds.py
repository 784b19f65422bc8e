"""What kind a thing is: the helper of all files, for things of any kind."""

from walkingcut.errors import NoCut, NoPlace, NoVial


def is_integer(thing):
    """Whether a thing is an int and no flag."""
    return isinstance(thing, int) and not isinstance(thing, bool)


def is_within(thing, least, most):
    """Whether a thing is an integer from the least to the most."""
    return is_integer(thing) and least <= thing <= most


def are_integers(thing):
    """Whether a thing is a tuple of integers."""
    return isinstance(thing, tuple) and all([is_integer(part) for part in thing])


def are_within(thing, count, least, most):
    """Whether a thing is a tuple of so many integers from the least to the most."""
    return are_integers(thing) and len(thing) == count and all([least <= part <= most for part in thing])


def is_lot(thing):
    """Whether a thing is an ascending tuple of unlike integers from 0 on."""
    if not are_integers(thing):
        return False
    return all([low < high for low, high in zip((-1,) + thing, thing)])


def is_lot_below(thing, top):
    """Whether a thing is a lot of integers below a top."""
    return is_lot(thing) and all([part < top for part in thing])


def is_cut(log, thing):
    """Whether a thing is a cut of the log's rack."""
    return is_within(thing, 0, log.many)


def check_cuts(log, begin, end):
    """NoCut unless both are cuts."""
    if not is_cut(log, begin) or not is_cut(log, end):
        raise NoCut()


def is_one_of(log, thing):
    """Whether a thing numbers a vial, or a place: there are as many of both."""
    return is_within(thing, 0, log.many - 1)


def check_vial(log, vial):
    """NoVial unless it is one."""
    if not is_one_of(log, vial):
        raise NoVial()


def check_place(log, place):
    """NoPlace unless it is one."""
    if not is_one_of(log, place):
        raise NoPlace()
