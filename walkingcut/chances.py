"""Chances: how many histories end alike, and how likely claims are if in each spill all orders are equally likely."""

from itertools import permutations
from math import gcd, perm

from walkingcut.claims import check_claims
from walkingcut.errors import TooMany
from walkingcut.kinds import check_vial
from walkingcut.logs import check_arrangement, home

MOST_PLACES_GONE_THROUGH = 6
MOST_CLAIMS = 3


def ways_to_all(log):
    """For each arrangement that can come the number of the histories that end with it."""
    if log.many > MOST_PLACES_GONE_THROUGH:
        raise TooMany(MOST_PLACES_GONE_THROUGH)
    ways = {home(log): 1}
    for first, last, _ in log.spills:
        ways = ways_behind(ways, first, last)
    return ways


def ways_behind(ways, first, last):
    """For each arrangement behind a spill the number of the histories up to there, if it is known ahead of it."""
    sums = {}
    for row in ways:
        in_order = row[:first] + tuple(sorted(row[first:last + 1])) + row[last + 1:]
        sums[in_order] = sums.get(in_order, 0) + ways[row]
    found = {}
    for row in sums:
        stood = list(row[first:last + 1])
        for put in permutations(stood):
            found[row[:first] + put + row[last + 1:]] = sums[row]
    return found


def many_ways(log, arrangement):
    """The number of the histories that end with an arrangement."""
    check_arrangement(log, arrangement)
    return ways_to_all(log).get(arrangement, 0)


def likeliest(log):
    """The least arrangement of those that the most histories end with, and the number of the histories."""
    ways = ways_to_all(log)
    most = max(ways.values())
    return min([row for row in ways if ways[row] == most]), most


def chance(log, claims):
    """How likely claims are."""
    check_claims(log, claims)
    if len(claims) > MOST_CLAIMS:
        raise TooMany(MOST_CLAIMS)
    return likelihood(log, claims)


def chances(log, vial):
    """For each place how likely a vial is there."""
    check_vial(log, vial)
    return tuple([likelihood(log, ((vial, place),)) for place in range(log.many)])


def likelihood(log, claims):
    """The fraction of how likely right claims are."""
    # Backward from the end. Places that no spill from here on tells apart are one cell, called by its first place; the
    # rack's end is told as a last one. It is kept how likely the claims are, as a part of the whole, for each way in
    # which their vials can stand in cells.
    cells = sorted(set([0, log.many] + [place + step for _, place in claims for step in (0, 1)]))
    whole = whole_of(log, len(claims))
    parts = {tuple([place for _, place in claims]): whole}
    for first, last, _ in reversed(log.spills):
        for cut in (first, last + 1):
            parts = cut_apart(parts, cells, cut)
            cells = sorted(set(cells + [cut]))
        parts = mixed(parts, cells, first, last)
        cells = [cell for cell in cells if not first < cell <= last]
    started = tuple([cell_of(cells, vial) for vial, _ in claims])
    return in_lowest_terms(parts.get(started, 0), whole)


def whole_of(log, count):
    """A number that can be divided by the number of ways in which so many vials, or fewer, can stand at the spills."""
    whole = 1
    for first, last, _ in log.spills:
        size = last - first + 1
        whole = whole * perm(size, min(size, count))
    return whole


def cell_of(cells, place):
    """The cell that a place is in."""
    return max([cell for cell in cells if cell <= place])


def cut_apart(parts, cells, cut):
    """The same parts, but with two cells in the place of one that a cut is inside of."""
    if cut in cells:
        return parts
    wide = cell_of(cells, cut)
    return {state: parts[told] for told in parts for state in told_apart(told, wide, cut)}


def told_apart(state, wide, cut):
    """All ways in which the vials of one cell can stand left and right of a cut inside it."""
    found = [()]
    for cell in state:
        sides = (wide, cut) if cell == wide else (cell,)
        found = [begun + (side,) for begun in found for side in sides]
    return found


def mixed(parts, cells, first, last):
    """The parts ahead of a spill, if they are known behind it and no cell is inside and outside its stretch."""
    sizes = {cell: end - cell for cell, end in zip(cells, cells[1:]) if first <= cell <= last}
    found = {}
    for state in parts:
        inside = [cell for cell in state if cell in sizes]
        ways = ways_to_stand(inside, sizes)
        if ways > 0:
            ahead = tuple([first if cell in sizes else cell for cell in state])
            share = ways * parts[state] // perm(last - first + 1, len(inside))
            found[ahead] = found.get(ahead, 0) + share
    return found


def ways_to_stand(inside, sizes):
    """The number of ways in which vials can stand in places of the cells that are told for them."""
    ways = 1
    for at, cell in enumerate(inside):
        ways = ways * (sizes[cell] - inside[:at].count(cell))
    return ways


def in_lowest_terms(top, bottom):
    """The fraction of two integers."""
    shared = gcd(top, bottom)
    return top // shared, bottom // shared
