"""Point 8.4."""

import itertools
import random
import unittest

from tests.support import (
    Case, W, all_small_logs, big_log, big_logs, coming, each_top, ends_with, number_passing, perms, some_small_logs,
    sorts_home, spoiled,
)
from walkingcut import errors
from walkingcut.bounds import (
    can_be_ahead, can_be_beyond, history_ahead, history_beyond, least_ahead, least_beyond,
)
from walkingcut.histories import end, led
from walkingcut.logs import Log, behind

BOUNDS = (1, 0, 2)
SIX = (least_beyond, least_ahead, can_be_beyond, can_be_ahead, history_beyond, history_ahead)
NO_BOUNDS = [
    thing for thing in spoiled(BOUNDS)
    if not (type(thing) is tuple and len(thing) == 3 and all(type(part) is int and 0 <= part < 3 for part in thing))
] + [(), (0, 0), (0, 0, 0, 0), (0, 0, 3), (-1, 0, 0), [0, 0, 0], (0, 0, True), (False, 0, 0), "000", {0: 0, 1: 0, 2: 0}]


def is_beyond(row, bounds):
    return all(row.index(vial) >= bound for vial, bound in enumerate(bounds))


def is_ahead(row, bounds):
    return all(row.index(vial) <= bound for vial, bound in enumerate(bounds))


def below(one, other):
    cuts = range(len(one) + 1)
    return all(number_passing(one, b, e) <= number_passing(other, b, e) for b in cuts for e in cuts)


class BoundsTest(Case):
    def test_8_4_the_least_of_all_arrangements(self):
        for many in (1, 2, 3, 4):
            log = Log(many, ())
            rows = perms(many)
            for bounds in itertools.product(range(many), repeat=many):
                for fits, function in ((is_beyond, least_beyond), (is_ahead, least_ahead)):
                    right = [row for row in rows if fits(row, bounds)]
                    found = function(log, bounds)
                    if right:
                        self.assertIn(found, right)
                        self.assertTrue(all(below(found, row) for row in right))
                    else:
                        self.assertIsNone(found)

    def test_8_4_the_least_in_racks_of_five_and_six(self):
        chance = random.Random(1)
        for many in (5, 6):
            rows = perms(many)
            for _ in range(20):
                row = chance.choice(rows)
                bounds = tuple(max(0, row.index(vial) - chance.randrange(3)) for vial in range(many))
                right = [row for row in rows if is_beyond(row, bounds)]
                found = least_beyond(Log(many, ()), bounds)
                self.assertIn(found, right)
                self.assertTrue(all(below(found, row) for row in right))
                bounds = tuple(min(many - 1, row.index(vial) + chance.randrange(3)) for vial in range(many))
                right = [row for row in rows if is_ahead(row, bounds)]
                found = least_ahead(Log(many, ()), bounds)
                self.assertIn(found, right)
                self.assertTrue(all(below(found, row) for row in right))

    def test_8_4_small_racks_gone_through(self):
        for log in some_small_logs() + each_top(4)[::7]:
            rows = coming(log)
            for bounds in itertools.product(range(log.many), repeat=log.many):
                for fits, can_be, history in (
                    (is_beyond, can_be_beyond, history_beyond), (is_ahead, can_be_ahead, history_ahead),
                ):
                    told = any(fits(row, bounds) for row in rows)
                    self.judges(told, can_be, log, bounds)
                    found = history(log, bounds)
                    if told:
                        self.assertTrue(fits(ends_with(log, found), bounds))
                    else:
                        self.assertIsNone(found)

    def test_8_4_bounds_of_home(self):
        for log in all_small_logs()[::5] + big_logs():
            home = tuple(range(log.many))
            for function in (least_beyond, least_ahead):
                self.assertEqual(function(log, home), home)
            for function in (can_be_beyond, can_be_ahead):
                self.judges(True, function, log, home)
            for function in (history_beyond, history_ahead):
                self.assertEqual(ends_with(log, function(log, home)), home)

    def test_8_4_all_bounds_the_first_and_the_last_place(self):
        for log in all_small_logs()[::5] + big_logs():
            home = tuple(range(log.many))
            first, last = (0,) * log.many, (log.many - 1,) * log.many
            self.assertEqual(least_beyond(log, first), home)
            self.assertEqual(least_ahead(log, last), home)
            self.judges(True, can_be_beyond, log, first)
            self.judges(True, can_be_ahead, log, last)
            self.assertEqual(ends_with(log, history_beyond(log, first)), home)
            self.assertEqual(ends_with(log, history_ahead(log, last)), home)
            alone = log.many == 1
            self.assertEqual(least_beyond(log, last), home if alone else None)
            self.assertEqual(least_ahead(log, first), home if alone else None)
            self.judges(alone, can_be_beyond, log, last)
            self.judges(alone, can_be_ahead, log, first)
            self.assertEqual(history_beyond(log, last) is None, not alone)
            self.assertEqual(history_ahead(log, first) is None, not alone)

    def test_8_4_told_arrangements(self):
        self.assertEqual(least_beyond(W, (2, 0, 0)), (1, 2, 0))
        self.assertEqual(least_ahead(W, (2, 2, 0)), (2, 0, 1))
        self.judges(True, can_be_beyond, W, (2, 0, 0))
        self.judges(False, can_be_ahead, W, (2, 2, 0))
        self.assertIsNone(history_ahead(W, (2, 2, 0)))
        self.assertIsNone(least_beyond(Log(4, ()), (0, 2, 2, 2)))
        self.assertIsNone(least_ahead(Log(4, ()), (1, 1, 1, 3)))
        turned = tuple(range(40))[::-1]
        self.assertEqual(least_beyond(Log(40, ()), turned), turned)
        self.assertEqual(least_ahead(Log(40, ()), turned), turned)

    def test_8_4_large_racks(self):
        logs = big_logs() + [behind(big_log(1, spills=60, widest=2), big_log(2, spills=60, widest=2))]
        for seed, log in enumerate(logs):
            chance = random.Random(seed)
            row = end(log, led(log, lambda number, vials: tuple(chance.sample(vials, len(vials)))))
            places = tuple(row.index(vial) for vial in range(40))
            bounds = tuple(max(0, place - chance.randrange(4)) for place in places)
            self.assertTrue(is_beyond(least_beyond(log, bounds), bounds))
            self.assertTrue(below(least_beyond(log, bounds), row))
            self.judges(True, can_be_beyond, log, bounds)
            self.assertTrue(is_beyond(ends_with(log, history_beyond(log, bounds)), bounds))
            bounds = tuple(min(39, place + chance.randrange(4)) for place in places)
            self.assertTrue(is_ahead(least_ahead(log, bounds), bounds))
            self.assertTrue(below(least_ahead(log, bounds), row))
            self.judges(True, can_be_ahead, log, bounds)
            self.assertTrue(is_ahead(ends_with(log, history_ahead(log, bounds)), bounds))
            other = tuple(chance.sample(range(40), 40))
            for function, can_be in ((least_beyond, can_be_beyond), (least_ahead, can_be_ahead)):
                self.assertEqual(function(log, other), tuple(other.index(place) for place in range(40)))
                self.judges(sorts_home(log, function(log, other)), can_be, log, other)

    def test_8_4_what_no_bounds_are(self):
        for thing in NO_BOUNDS:
            for function in SIX:
                self.refuses(errors.NoBounds, function, W, thing)
        for function in SIX:
            self.refuses(errors.NoBounds, function, Log(1, ()), (1,))
            self.refuses(errors.NoBounds, function, Log(40, ()), (0,) * 39)
            self.refuses(errors.NoBounds, function, Log(40, ()), (40,) * 40)


if __name__ == "__main__":
    unittest.main()
