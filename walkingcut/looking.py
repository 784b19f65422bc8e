"""Looks: which places to look at, one behind another, until it is sure where all vials are."""

from itertools import combinations

from walkingcut.counting import all_arrangements
from walkingcut.errors import TooMany
from walkingcut.kinds import are_integers, is_integer

MOST_PLACES_FOR_TREES = 5
MOST_PLACES_FOR_LOTS = 6


def check_few_places(log, most):
    """TooMany if the rack has more places than most."""
    if log.many > most:
        raise TooMany(most)


def parted(rows, place):
    """For each vial that stands in a place of some arrangements those in which it does."""
    found = {}
    for row in rows:
        found.setdefault(row[place], []).append(row)
    return found


def left_out(places, place):
    """The places without one of them."""
    return [other for other in places if other != place]


def least_tree(log):
    """The least number of looks that are enough whatever is seen, and a tree with which so many are."""
    check_few_places(log, MOST_PLACES_FOR_TREES)
    rows, places = all_arrangements(log), list(range(log.many))
    most = 0
    tree = tree_within(rows, places, most)
    while tree is None:
        most += 1
        tree = tree_within(rows, places, most)
    return most, tree


def tree_within(rows, places, most):
    """A tree for some arrangements that looks at some places alone, at most so often; None if there is none."""
    if len(rows) == 1:
        return "told", rows[0]
    if most == 0:
        return None
    for place in places:
        trees = trees_within(parted(rows, place), left_out(places, place), most - 1)
        if trees is not None:
            return "look", place, trees
    return None


def trees_within(groups, places, most):
    """A tree for each group of arrangements, likewise; None if one of them has none."""
    trees = {}
    for vial in groups:
        tree = tree_within(groups[vial], places, most)
        if tree is None:
            return None
        trees[vial] = tree
    return trees


def looks(log):
    """The least number of looks that are enough whatever is seen."""
    return least_tree(log)[0]


def look_tree(log):
    """A tree with which the least number of looks is enough."""
    return least_tree(log)[1]


def is_look_tree(log, thing):
    """Whether a thing is a tree for all that can come."""
    check_few_places(log, MOST_PLACES_FOR_TREES)
    return is_tree(all_arrangements(log), list(range(log.many)), thing)


def is_tree(rows, places, thing):
    """Whether a thing is a tree for some arrangements, while some places were not looked at yet."""
    if not isinstance(thing, tuple):
        return False
    if len(thing) == 2:
        return thing[0] == "told" and are_integers(thing[1]) and [thing[1]] == rows
    if len(thing) != 3 or thing[0] != "look" or not is_integer(thing[1]) or thing[1] not in places:
        return False
    return are_trees(parted(rows, thing[1]), left_out(places, thing[1]), thing[2])


def are_trees(groups, places, thing):
    """Whether a thing is a dict with a tree for each group of arrangements, and nothing else."""
    if not isinstance(thing, dict) or len(thing) != len(groups):
        return False
    return all([vial in thing and is_tree(groups[vial], places, thing[vial]) for vial in groups])


def sure_lot(log):
    """The least lot, of fewest places, such that all is sure behind looking at just these."""
    check_few_places(log, MOST_PLACES_FOR_LOTS)
    rows = all_arrangements(log)
    # All places tell all; so a lot is found at the latest when nothing else is left.
    for size in range(log.many):
        for lot in combinations(range(log.many), size):
            if tells_all(rows, lot):
                return lot
    return tuple(range(log.many))


def tells_all(rows, lot):
    """Whether no two of some arrangements look alike at a lot of places."""
    return len({tuple([row[place] for place in lot]) for row in rows}) == len(rows)
