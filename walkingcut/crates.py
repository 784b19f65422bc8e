"""Crates: what can be if only the crates in which the vials stand are seen."""

from itertools import combinations

from walkingcut.cuts import is_too_cheap, prices, walk_below
from walkingcut.errors import NoCrated, NoSizes, TooMany
from walkingcut.kinds import are_integers, is_lot
from walkingcut.logs import is_arrangement
from walkingcut.sorting import can_come, history_for
from walkingcut.utmosts import passing_table

MOST_PLACES_GONE_THROUGH = 8


def check_sizes(log, sizes):
    """NoSizes unless they are."""
    if not are_integers(sizes) or sum(sizes) != log.many or not all([size >= 1 for size in sizes]):
        raise NoSizes()


def is_crated(log, sizes, thing):
    """Whether a thing is a tuple with a lot of vials for each crate, as many as its size, each vial in just one."""
    if not isinstance(thing, tuple) or [len(lot) if is_lot(lot) else 0 for lot in thing] != list(sizes):
        return False
    return is_arrangement(log, laid_out(thing))


def laid_out(crated):
    """What stands in the places if each crate's vials stand in order."""
    return tuple([vial for lot in crated for vial in lot])


def least_crated(log, sizes, crated):
    """The arrangement in which each crate's vials stand in order."""
    check_sizes(log, sizes)
    if not is_crated(log, sizes, crated):
        raise NoCrated()
    return laid_out(crated)


def can_be_crated(log, sizes, crated):
    """Whether in some arrangement that can come the vials stand in these crates."""
    # To swap two vials of a crate that stand the wrong way round brings an arrangement further down: so the least
    # one is below all others that stand in these crates.
    return can_come(log, least_crated(log, sizes, crated))


def history_crated(log, sizes, crated):
    """A history behind which the vials stand in these crates, or None."""
    return history_for(log, least_crated(log, sizes, crated))


def bar_crated(log, sizes, crated):
    """A walk that is too cheap for how many vials must have passed it to these crates, or None."""
    return walk_below(log, passing_table(least_crated(log, sizes, crated)))


def is_bar_crated(log, sizes, crated, thing):
    """Whether a thing is a walk that is too cheap for the crates."""
    return is_too_cheap(log, least_crated(log, sizes, crated), thing)


def many_crated(log, sizes):
    """The number of all that can be crated."""
    check_sizes(log, sizes)
    if log.many > MOST_PLACES_GONE_THROUGH:
        raise TooMany(MOST_PLACES_GONE_THROUGH)
    table = prices(log)
    ways = {(): 1}
    for size in sizes:
        ways = one_crate_more(table, ways, size)
    return sum(list(ways.values()))


def one_crate_more(table, ways, size):
    """In how many ways each lot of vials can be in the crates so far and one more."""
    found = {}
    for lot in ways:
        others = [vial for vial in range(len(table) - 1) if vial not in lot]
        for part in combinations(others, size):
            further = tuple(sorted(lot + part))
            found[further] = found.get(further, 0) + ways[lot]
    # A crate's vials in order pass no walk that ends inside it too often if they do so none that ends at its sides.
    return {lot: found[lot] for lot in found if is_open(table, lot)}


def is_open(table, lot):
    """Whether a lot of vials can be in the first places: whether no walk that ends behind them is too cheap."""
    return all([
        begin - len([vial for vial in lot if vial < begin]) <= row[len(lot)] for begin, row in enumerate(table)
    ])
