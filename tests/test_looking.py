"""Point 11.1."""

import itertools
import unittest

from tests.support import (
    Case, W, all_small_logs, big_log, coming, deep, each_top, not_tuples, odd_tuples, perms, small_logs,
)
from walkingcut import errors
from walkingcut.looking import is_look_tree, look_tree, looks, sure_lot
from walkingcut.logs import Log, behind


def groups_of(rows, place):
    """By the vial in a place, the rows."""
    found = {}
    for row in rows:
        found.setdefault(row[place], set()).add(row)
    return found


def least_looks(rows, places, known):
    """By the words, the least number of looks behind which all is sure."""
    rows = frozenset(rows)
    if (rows, places) not in known:
        known[rows, places] = 0 if len(rows) == 1 else 1 + min(
            max(least_looks(part, places - {place}, known) for part in groups_of(rows, place).values())
            for place in places
        )
    return known[rows, places]


def height(rows, places, tree):
    """How many looks a tree has at most; it fails if it is no tree."""
    assert type(tree) is tuple
    if tree[0] == "told":
        assert len(tree) == 2 and type(tree[1]) is tuple and set(rows) == {tree[1]}, tree
        return 0
    word, place, trees = tree
    assert word == "look" and place in places and type(trees) is dict, tree
    groups = groups_of(rows, place)
    assert set(trees) == set(groups), tree
    return 1 + max(height(groups[vial], places - {place}, trees[vial]) for vial in trees)


def all_trees(rows, places):
    """All trees by the words."""
    found = [("told", min(rows))] if len(rows) == 1 else []
    for place in sorted(places):
        groups = groups_of(rows, place)
        each = [all_trees(groups[vial], places - {place}) for vial in sorted(groups)]
        found.extend(("look", place, dict(zip(sorted(groups), trees))) for trees in itertools.product(*each))
    return found


def full_tree(rows, places):
    """The tree that looks at all places, also where all is sure already."""
    if not places:
        return ("told", min(rows))
    place = min(places)
    groups = groups_of(rows, place)
    return ("look", place, {vial: full_tree(groups[vial], places - {place}) for vial in groups})


def spoilt_trees(tree, vials):
    """A right tree with one thing of it made wrong, at whatever depth."""
    if tree[0] == "told":
        row = tree[1]
        return [
            ("look", row), ("TOLD", row), (b"told", row), ("told",), ("told", row, row), ["told", row],
            ("told", list(row)), ("told", row[::-1] if len(row) > 1 else (1,)), ("told", row + (0,)),
            ("told", row[:-1]), row, None, (), ("told", None),
            ("told", tuple(bool(vial) if vial < 2 else vial for vial in row)), {"told": row}, (row, "told"), "told",
            ("told", W),
        ]
    _, place, trees = tree
    vial = min(trees)
    rest = {other: trees[other] for other in trees if other != vial}
    found = [
        ("told", place, trees), ("Look", place, trees), (None, place, trees), (0, place, trees), ("look", place),
        ("look", place, trees, 0), ["look", place, trees], ("look", -1, trees), ("look", vials, trees),
        ("look", None, trees), ("look", "0", trees), ("look", [place], trees), ("look", {}, trees),
        ("look", bool(place), trees), ("look", place, rest), ("look", place, {**trees, "0": trees[vial]}),
        ("look", place, {}), ("look", place, None), ("look", place, list(trees.items())),
        ("look", place, tuple(trees.values())), ("look", trees, place), trees, None,
        ("look", place, {**trees, vials: trees[vial]}), ("look", place, {**trees, -1: trees[vial]}),
        ("look", place, {**rest, str(vial): trees[vial]}), ("look", place, {**rest, vials: trees[vial]}),
    ]
    missing = [other for other in range(vials) if other not in trees]
    found.extend(("look", place, {**trees, other: trees[vial]}) for other in missing)
    found.extend(("look", place, {**rest, other: trees[vial]}) for other in missing)
    for vial in trees:
        found.extend(("look", place, {**trees, vial: spoilt}) for spoilt in spoilt_trees(trees[vial], vials))
    return found


class LookingTest(Case):
    def check_tree(self, log):
        rows, places = coming(log), frozenset(range(log.many))
        least = least_looks(rows, places, {})
        self.assertEqual(looks(log), least)
        self.assertIs(type(looks(log)), int)
        tree = look_tree(log)
        self.assertEqual(height(rows, places, tree), least)
        self.judges(True, is_look_tree, log, tree)
        self.judges(True, is_look_tree, log, full_tree(rows, places))

    def test_11_1_small_racks_gone_through(self):
        for log in all_small_logs() + each_top(4):
            self.check_tree(log)

    def test_11_1_racks_of_five(self):
        for log in each_top(5)[::5] + [big_log(seed, 5, 6, 4) for seed in range(6)] + [Log(5, ((0, 4, 0),))]:
            self.check_tree(log)

    def test_11_1_told_ones(self):
        self.assertEqual(looks(W), 2)
        self.assertEqual(looks(Log(5, ((0, 4, 0),))), 4)
        self.assertEqual(looks(Log(5, ((0, 1, 0), (3, 4, 0)))), 2)
        self.assertEqual(look_tree(Log(2, ((0, 1, 0),)))[0], "look")

    def test_11_1_all_is_sure_without_a_look(self):
        for many in (1, 2, 5):
            log, home = Log(many, ()), tuple(range(many))
            self.assertEqual(looks(log), 0)
            self.assertEqual(look_tree(log), ("told", home))
            self.judges(True, is_look_tree, log, ("told", home))
            self.assertEqual(sure_lot(log), ())

    def test_11_1_all_trees_are_trees(self):
        for log in [Log(1, ()), Log(2, ()), Log(2, ((0, 1, 0),)), Log(3, ()), Log(3, ((0, 1, 0),)), W]:
            trees = all_trees(coming(log), frozenset(range(log.many)))
            self.assertGreater(len(trees), 1)
            for tree in trees[::1 + len(trees) // 500]:
                self.judges(True, is_look_tree, log, tree)

    def test_11_1_a_tree_may_look_where_all_is_sure(self):
        log = Log(1, ())
        self.judges(True, is_look_tree, log, ("look", 0, {0: ("told", (0,))}))
        self.judges(False, is_look_tree, log, ("look", 0, {0: ("look", 0, {0: ("told", (0,))})}))

    def test_11_1_a_tree_for_some_racks_is_none_for_others(self):
        logs = small_logs(3, 2)
        for log, other in itertools.product(logs, logs):
            alike = coming(log) == coming(other)
            self.judges(alike, is_look_tree, other, full_tree(coming(log), frozenset(range(3))))

    def test_11_1_what_no_trees_are(self):
        larger = [Log(4, ((0, 2, 0),)), Log(5, ((0, 1, 0), (2, 4, 0)))]
        for log in [Log(1, ()), Log(2, ((0, 1, 0),)), Log(3, ()), W] + larger:
            rows, places = coming(log), frozenset(range(log.many))
            right = {repr(tree) for tree in all_trees(rows, places)} if log.many < 4 else set()
            for tree in (look_tree(log), full_tree(rows, places)):
                for thing in spoilt_trees(tree, log.many):
                    if repr(thing) not in right:
                        self.judges(False, is_look_tree, log, thing)

    def test_11_1_told_ones_that_are_none(self):
        turned = Log(2, ((0, 1, 0),))
        leaves = {0: ("told", (0, 1)), 1: ("told", (1, 0))}
        self.judges(True, is_look_tree, turned, ("look", 0, leaves))
        self.judges(True, is_look_tree, turned, ("look", 1, {1: ("told", (0, 1)), 0: ("told", (1, 0))}))
        for thing in (
            ("told", (0, 1)), ("told", (1, 0)), ("look", 1, leaves), ("look", 0, {0: ("told", (0, 1))}),
            ("look", 0, {0: ("told", (0, 1)), 1: ("told", (0, 1))}), ("look", 0, {**leaves, 2: ("told", (0, 1))}),
            ("look", 0, {0: ("look", 0, {0: ("told", (0, 1))}), 1: ("told", (1, 0))}), ("look", False, leaves),
            ("look", 0, [("told", (0, 1)), ("told", (1, 0))]), ("look", 2, leaves),
            ("look", 0, {0: ("told", (False, True)), 1: ("told", (1, 0))}),
            ("look", 0, {0: ("told", [0, 1]), 1: ("told", (1, 0))}),
        ):
            self.judges(False, is_look_tree, turned, thing)
        sure = Log(2, ())
        self.judges(False, is_look_tree, sure, ("look", 0, leaves))
        self.judges(False, is_look_tree, sure, ("told", (1, 0)))
        self.judges(False, is_look_tree, sure, ("told", (0, 1, 2)))

    def test_11_1_things_of_all_kinds(self):
        nested = ("told", (0, 1, 2))
        for _ in range(19):
            nested = ("look", 0, {0: nested})
        wide = ("look", 0, {vial: ("told", (0, 1, 2)) for vial in range(1200)})
        things = not_tuples() + odd_tuples() + [nested, wide, deep(40), deep(40, list), deep(40, dict), (None,) * 9999]
        for thing in things:
            for log in (W, Log(1, ()), Log(5, ((0, 4, 0),))):
                self.judges(False, is_look_tree, log, thing)
                self.judges(False, is_look_tree, log, ("look", 0, thing))
                self.judges(False, is_look_tree, log, ("look", thing, {0: ("told", (0,))}))
                self.judges(False, is_look_tree, log, ("told", thing))
                self.judges(False, is_look_tree, log, (thing, (0, 1, 2)))
                self.judges(False, is_look_tree, log, (thing, 0, {0: ("told", (0,))}))
                self.judges(False, is_look_tree, log, ("look", 0, {0: thing}))
                self.judges(False, is_look_tree, log, ("look", 0, {0: thing, 1: thing, 2: thing}))

    def test_11_1_a_large_right_tree(self):
        log = Log(5, ((0, 4, 0),))
        tree = full_tree(coming(log), frozenset(range(5)))
        self.judges(True, is_look_tree, log, tree)
        self.judges(True, is_look_tree, behind(log, log), tree)
        self.judges(False, is_look_tree, Log(5, ((0, 3, 0),)), tree)

    def test_11_1_sure_lot_gone_through(self):
        for log in all_small_logs() + each_top(4) + each_top(5)[::4] + [big_log(seed, 6, 4, 4) for seed in range(5)]:
            rows = coming(log)
            lots = [lot for size in range(log.many + 1) for lot in itertools.combinations(range(log.many), size)]
            sure = [lot for lot in lots if len({tuple(row[place] for place in lot) for row in rows}) == len(rows)]
            self.assertEqual(sure_lot(log), min(sure, key=lambda lot: (len(lot), lot)))

    def test_11_1_told_lots(self):
        self.assertEqual(sure_lot(W), (0, 1))
        self.assertEqual(sure_lot(Log(1, ())), ())
        self.assertEqual(sure_lot(Log(6, ((0, 5, 0),))), (0, 1, 2, 3, 4))
        self.assertEqual(sure_lot(Log(6, ((1, 2, 0), (4, 5, 0)))), (1, 4))

    def test_11_1_five_places_and_six_and_seven(self):
        for many in (6, 7, 40):
            for log in (Log(many, ()), Log(many, ((0, many - 1, 0),))):
                self.refuses(errors.TooMany, looks, log, most=5)
                self.refuses(errors.TooMany, look_tree, log, most=5)
                for thing in (("told", tuple(range(many))), None, 0, deep(40)):
                    self.refuses(errors.TooMany, is_look_tree, log, thing, most=5)
        for many in (7, 8, 40):
            self.refuses(errors.TooMany, sure_lot, Log(many, ()), most=6)
        self.assertEqual(sure_lot(Log(6, ())), ())
        self.assertEqual(looks(Log(5, ())), 0)

    def test_0_4_the_dicts_are_new(self):
        first, again = look_tree(W), look_tree(W)
        self.assertEqual(first, again)
        self.assertEqual(first, look_tree(Log(3, ((0, 1, 0), (1, 2, 1)))))
        self.empty(first)
        self.assertEqual(look_tree(W), again)

    def empty(self, tree):
        if tree[0] == "look":
            for vial in tree[2]:
                self.empty(tree[2][vial])
            tree[2].clear()

    def test_11_1_a_judged_tree_stays_as_it_was(self):
        tree = look_tree(Log(4, ((0, 3, 0),)))
        before = repr(tree)
        self.judges(True, is_look_tree, Log(4, ((0, 3, 0),)), tree)
        self.judges(False, is_look_tree, Log(4, ((0, 2, 0),)), tree)
        self.assertEqual(repr(tree), before)

    def test_11_1_long_logs(self):
        log = Log(5, ((0, 1, 0), (1, 2, 0), (2, 3, 0), (3, 4, 0)) * 25)
        long = behind(log, log)
        self.assertEqual(looks(long), 4)
        self.assertEqual(len(coming(Log(5, ((0, 4, 0),)))), len(perms(5)))
        self.judges(True, is_look_tree, Log(5, ((0, 4, 0),)), look_tree(long))


if __name__ == "__main__":
    unittest.main()
