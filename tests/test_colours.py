"""Point 8.1 and the eighth fact."""

import itertools
import random
import unittest

from tests.support import (
    Case, W, all_small_logs, all_walks, big_log, big_logs, coming, each_top, ends_with, is_a_walk, left_steps,
    perms, small_logs, some_small_logs, sorts_home, spoiled,
)
from walkingcut import errors
from walkingcut.colours import all_seen, bar_seen, can_be_seen, history_seen, is_bar_seen, least_seen, many_seen
from walkingcut.histories import end, led
from walkingcut.logs import Log, behind

FIVE = (can_be_seen, least_seen, history_seen, bar_seen)
COLOURS, SEEN, WALK = (0, 0, 1), (1, 0, 0), (2, 2, 1, 1)
NO_COLOURS = [
    thing for thing in spoiled(COLOURS) if thing not in ((1, 0, 1), (0, 1, 1), (0, 0, 0))
] + [(0, 0), (0, 0, 1, 1), (0, 0, 10), (-1, 0, 1), [0, 0, 1], (0, 0, True), (False, 0, 1), (), "001"]


def shown(row, colours):
    return tuple(colours[vial] for vial in row)


def some_colours(many):
    """Colours of all ways to part the vials, and some with other numbers."""
    found = {()}
    for _ in range(many):
        found = {row + (colour,) for row in found for colour in range(len(set(row)) + 1)}
    return sorted(found) + [tuple(9 - colour for colour in row) for row in sorted(found)[-2:]]


def all_orders(colours):
    return sorted(set(itertools.permutations(colours)))


def in_order_seen(colours, seen):
    """By the words: each colour's vials, in order, in its places."""
    row = [None] * len(seen)
    for colour in set(colours):
        vials = [vial for vial, its in enumerate(colours) if its == colour]
        places = [place for place, its in enumerate(seen) if its == colour]
        for vial, place in zip(vials, places):
            row[place] = vial
    return tuple(row)


def more_passing(colours, seen, begin, cut):
    return sum(max(0, colours[:begin].count(colour) - seen[:cut].count(colour)) for colour in range(10))


class SeenTest(Case):
    def check_bar(self, log, colours, seen, found):
        self.assertTrue(is_a_walk(log, found))
        self.assertLess(left_steps(found), more_passing(colours, seen, found[0], found[-1]))
        self.judges(True, is_bar_seen, log, colours, seen, found)

    def check_history(self, log, colours, seen, history):
        self.assertIsNotNone(ends_with(log, history))
        self.assertEqual(shown(ends_with(log, history), colours), seen)

    def test_8_1_small_racks_gone_through_and_the_eighth_fact(self):
        for log in some_small_logs() + each_top(4)[::5]:
            rows = coming(log)
            for colours in some_colours(log.many):
                right = {shown(row, colours) for row in rows}
                for seen in all_orders(colours):
                    self.judges(seen in right, can_be_seen, log, colours, seen)
                    history, found = history_seen(log, colours, seen), bar_seen(log, colours, seen)
                    self.assertNotEqual(history is None, found is None)
                    if seen in right:
                        self.check_history(log, colours, seen, history)
                    else:
                        self.check_bar(log, colours, seen, found)

    def test_8_1_the_eighth_fact_by_all_walks(self):
        for log in small_logs(2, 2) + small_logs(3, 2) + small_logs(4, 1):
            rows = coming(log)
            walks = all_walks(log)
            for colours in some_colours(log.many)[::2]:
                right = {shown(row, colours) for row in rows}
                for seen in all_orders(colours):
                    barred = any(left_steps(cuts) < more_passing(colours, seen, cuts[0], cuts[-1]) for cuts in walks)
                    self.assertEqual(seen in right, not barred)

    def test_8_1_least_seen(self):
        self.assertEqual(least_seen(W, COLOURS, SEEN), (2, 0, 1))
        self.assertEqual(least_seen(Log(5, ()), (3, 9, 3, 0, 9), (9, 0, 3, 9, 3)), (1, 3, 0, 4, 2))
        for many in (1, 2, 3, 4):
            for colours in some_colours(many):
                for seen in all_orders(colours):
                    self.assertEqual(least_seen(Log(many, ()), colours, seen), in_order_seen(colours, seen))

    def test_8_1_the_example(self):
        self.judges(False, can_be_seen, W, COLOURS, SEEN)
        self.assertIsNone(history_seen(W, COLOURS, SEEN))
        self.check_bar(W, COLOURS, SEEN, bar_seen(W, COLOURS, SEEN))
        self.judges(True, is_bar_seen, W, COLOURS, SEEN, WALK)
        self.judges(True, can_be_seen, W, COLOURS, (0, 1, 0))

    def test_8_1_racks_of_1_and_of_40_places(self):
        one = Log(1, ())
        self.judges(True, can_be_seen, one, (9,), (9,))
        self.assertEqual(history_seen(one, (0,), (0,)), ())
        self.assertIsNone(bar_seen(one, (0,), (0,)))
        self.assertEqual(all_seen(one, (4,)), [(4,)])
        self.assertEqual(many_seen(one, (4,)), 1)
        for seed, log in enumerate(big_logs() + [behind(big_log(1, spills=60, widest=2), big_log(2, spills=60, widest=2))]):
            chance = random.Random(seed)
            row = end(log, led(log, lambda number, vials: tuple(chance.sample(vials, len(vials)))))
            for most in (0, 1, 3, 9):
                colours = tuple(chance.randrange(most + 1) for _ in range(40))
                seen = shown(row, colours)
                self.judges(True, can_be_seen, log, colours, seen)
                self.check_history(log, colours, seen, history_seen(log, colours, seen))
                self.assertIsNone(bar_seen(log, colours, seen))
                other = tuple(chance.sample(seen, 40))
                told = sorts_home(log, in_order_seen(colours, other))
                self.judges(told, can_be_seen, log, colours, other)
                if told:
                    self.check_history(log, colours, other, history_seen(log, colours, other))
                    self.assertIsNone(bar_seen(log, colours, other))
                else:
                    self.assertIsNone(history_seen(log, colours, other))
                    self.check_bar(log, colours, other, bar_seen(log, colours, other))

    def test_8_1_is_bar_seen_of_all_walks(self):
        for log in small_logs(1, 0) + small_logs(2, 2) + small_logs(3, 2)[::3] + small_logs(4, 1)[::2]:
            walks = all_walks(log)
            for colours in some_colours(log.many)[::2]:
                for seen in all_orders(colours):
                    for cuts in walks:
                        told = left_steps(cuts) < more_passing(colours, seen, cuts[0], cuts[-1])
                        self.judges(told, is_bar_seen, log, colours, seen, cuts)

    def test_8_1_is_bar_seen_judges_things_of_all_kinds(self):
        for thing in spoiled(WALK) + [(), (2, 1), (2, 2, 1), (2, 2, 1, 1, 1), list(WALK), (2, 2, True, 1), (2, 1, 1, 1)]:
            self.judges(False, is_bar_seen, W, COLOURS, SEEN, thing)
        for thing in ((2, 2, 2, 1), (2, 2, 0, 1), (-1, 2, 1, 1), (2, 2, 1, 4), (3, 3, 1, 1), (2, 2, 1, 0)):
            told = is_a_walk(W, thing) and left_steps(thing) < more_passing(COLOURS, SEEN, thing[0], thing[-1])
            self.judges(told, is_bar_seen, W, COLOURS, SEEN, thing)
        self.judges(False, is_bar_seen, W, COLOURS, (0, 1, 0), WALK)
        # A dear walk is a bar too, where it is passed more often than its price.
        self.judges(True, is_bar_seen, Log(4, ()), (0, 1, 2, 3), (3, 2, 1, 0), (2, 2))
        self.judges(True, is_bar_seen, Log(4, ()), (0, 1, 2, 3), (2, 3, 0, 1), (3, 2))
        self.judges(False, is_bar_seen, Log(4, ()), (0, 1, 2, 3), (2, 3, 0, 1), (3, 1))
        self.judges(False, is_bar_seen, Log(4, ()), (0, 1, 0, 1), (0, 1, 1, 0), (4, 2))

    def test_8_1_what_no_colours_are(self):
        for thing in NO_COLOURS:
            for function in FIVE:
                self.refuses(errors.NoColours, function, W, thing, SEEN)
                self.refuses(errors.NoColours, function, W, thing, None)
            self.refuses(errors.NoColours, is_bar_seen, W, thing, SEEN, WALK)
            self.refuses(errors.NoColours, is_bar_seen, W, thing, None, None)
            self.refuses(errors.NoColours, many_seen, W, thing)
            self.refuses(errors.NoColours, all_seen, W, thing)

    def test_8_1_what_is_no_seen(self):
        wrong = [thing for thing in NO_COLOURS if thing != (0, 0, 1)]
        for thing in wrong + [(0, 0, 0), (1, 1, 0), (0, 0, 2), (2, 0, 0), (1, 1, 1), (0, 0, 9)]:
            for function in FIVE:
                self.refuses(errors.NoSeen, function, W, COLOURS, thing)
            self.refuses(errors.NoSeen, is_bar_seen, W, COLOURS, thing, WALK)
            self.refuses(errors.NoSeen, is_bar_seen, W, COLOURS, thing, None)
        self.refuses(errors.NoSeen, can_be_seen, Log(1, ()), (0,), (1,))
        self.refuses(errors.NoSeen, can_be_seen, Log(40, ()), (0,) * 40, (0,) * 39)
        self.refuses(errors.NoSeen, can_be_seen, Log(40, ()), (0,) * 40, (0,) * 39 + (1,))


class AllSeenTest(Case):
    def test_8_1_all_that_can_be_seen(self):
        for log in all_small_logs()[::2] + each_top(5)[::17]:
            rows = coming(log)
            for colours in some_colours(log.many)[::1 if log.many < 5 else 7]:
                right = sorted({shown(row, colours) for row in rows})
                self.assertEqual(all_seen(log, colours), right)
                self.assertEqual(many_seen(log, colours), len(right))

    def test_8_1_eight_places_and_nine(self):
        for many in (9, 10, 40):
            self.refuses(errors.TooMany, many_seen, Log(many, ()), (0,) * many, most=8)
            self.refuses(errors.TooMany, all_seen, Log(many, ()), (0,) * many, most=8)
            self.refuses(errors.NoColours, many_seen, Log(many, ()), (0,) * 8)
            self.refuses(errors.NoColours, all_seen, Log(many, ()), (10,) * many)
        self.assertEqual(all_seen(Log(8, ()), (0,) * 8), [(0,) * 8])
        mixed = Log(8, ((0, 7, 0),))
        self.assertEqual(all_seen(mixed, tuple(range(8))), perms(8))
        self.assertEqual(many_seen(mixed, tuple(range(8))[::-1]), 40320)
        self.assertEqual(many_seen(mixed, (0, 1) * 4), 70)
        self.assertEqual(many_seen(Log(8, ((0, 3, 0), (4, 7, 0))), (5, 5, 6, 6) * 2), 36)

    def test_8_1_eight_places_by_each_arrangement(self):
        for seed in range(3):
            log = big_log(seed, 8, 9, 5)
            chance = random.Random(seed)
            for most in (1, 3):
                colours = tuple(chance.randrange(most + 1) for _ in range(8))
                right = [seen for seen in all_orders(colours) if sorts_home(log, in_order_seen(colours, seen))]
                self.assertEqual(all_seen(log, colours), right)
                self.assertEqual(many_seen(log, colours), len(right))

    def test_8_1_long_logs(self):
        log = Log(5, ((0, 1, 0),) * 99 + ((1, 2, 0),))
        long = behind(behind(log, log), log)
        self.assertEqual(all_seen(long, (0, 1, 1, 2, 3)), [(0, 1, 1, 2, 3), (1, 0, 1, 2, 3), (1, 1, 0, 2, 3)])
        self.judges(True, can_be_seen, long, (0, 1, 1, 2, 3), (1, 1, 0, 2, 3))
        self.check_long_history(long)

    def check_long_history(self, long):
        history = history_seen(long, (0, 1, 1, 2, 3), (1, 1, 0, 2, 3))
        self.assertEqual(shown(ends_with(long, history), (0, 1, 1, 2, 3)), (1, 1, 0, 2, 3))
        found = bar_seen(long, (0, 1, 1, 2, 3), (0, 1, 1, 3, 2))
        self.assertTrue(is_a_walk(long, found))

    def test_0_4_the_list_is_new(self):
        found = all_seen(W, COLOURS)
        found.clear()
        self.assertEqual(all_seen(W, COLOURS), [(0, 0, 1), (0, 1, 0)])


if __name__ == "__main__":
    unittest.main()
