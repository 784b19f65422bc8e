"""Point 8.2."""

import random
import unittest

from tests.support import (
    Case, W, all_small_logs, all_walks, big_log, big_logs, coming, each_top, ends_with, is_a_walk, left_steps,
    number_passing, perms, small_logs, some_small_logs, sorts_home, spoiled,
)
from walkingcut import errors
from walkingcut.crates import (
    bar_crated, can_be_crated, history_crated, is_bar_crated, least_crated, many_crated,
)
from walkingcut.histories import end, led
from walkingcut.logs import Log, behind

FOUR_OF_THEM = (can_be_crated, least_crated, history_crated, bar_crated)
SIZES, CRATED, WALK = (1, 2), ((2,), (0, 1)), (2, 2, 1, 1)
NO_SIZES = [thing for thing in spoiled(SIZES) if thing not in ((3,), (1, 2))] + [
    (), (0, 3), (3, 0), (-1, 4), (1, 1), (1, 2, 1), (4,), (2,), [1, 2], (True, 2), (1, 1, True), (False, 3), 3, "12",
    (1.5, 1.5), (10 ** 39, 3 - 10 ** 39), (1, 1, 1, 0), {1: 2}, range(1, 3),
]
NO_CRATED = [thing for thing in spoiled(CRATED) if thing not in (CRATED, ((1,), (0, 2)), ((0,), (1, 2)))] + [
    (), ((2,),), ((2,), (0, 1), ()), ((0, 1), (2,)), ((2,), (1, 0)), ((0,), (0, 1)), ((2,), (0, 2)), ((3,), (0, 1)),
    ((2,), (0, 3)), ((-1,), (0, 1)), ((2, 0), (1,)), ((), (0, 1, 2)), ((2,), (0,)), ((2,), (0, 1, 1)), [(2,), (0, 1)],
    ([2], (0, 1)), ((2,), [0, 1]), ((2,), (False, 1)), ((2,), (0, True)), (2, 0, 1), (2, (0, 1)), ((2,), (0, 1, 2)),
]


def some_sizes(many):
    """All sizes of a rack."""
    if many == 0:
        return [()]
    return [(first,) + others for first in range(1, many + 1) for others in some_sizes(many - first)]


def in_crates(row, sizes):
    found, at = [], 0
    for size in sizes:
        found.append(tuple(sorted(row[at:at + size])))
        at += size
    return tuple(found)


def laid(crated):
    return tuple(vial for lot in crated for vial in lot)


class CratesTest(Case):
    def check_history(self, log, sizes, crated, history):
        self.assertIsNotNone(ends_with(log, history))
        self.assertEqual(in_crates(ends_with(log, history), sizes), crated)

    def check_bar(self, log, sizes, crated, found):
        self.assertTrue(is_a_walk(log, found))
        self.assertLess(left_steps(found), number_passing(laid(crated), found[0], found[-1]))
        self.judges(True, is_bar_crated, log, sizes, crated, found)

    def test_8_2_small_racks_gone_through(self):
        for log in all_small_logs()[::2] + each_top(4) + each_top(5)[::13]:
            rows = coming(log)
            for sizes in some_sizes(log.many):
                right = {in_crates(row, sizes) for row in rows}
                for crated in {in_crates(row, sizes) for row in perms(log.many)}:
                    self.judges(crated in right, can_be_crated, log, sizes, crated)
                    history, found = history_crated(log, sizes, crated), bar_crated(log, sizes, crated)
                    self.assertNotEqual(history is None, found is None)
                    if crated in right:
                        self.check_history(log, sizes, crated, history)
                    else:
                        self.check_bar(log, sizes, crated, found)

    def test_8_2_many_crated_of_small_racks_gone_through(self):
        for log in all_small_logs() + each_top(4) + each_top(5)[::13]:
            rows = coming(log)
            for sizes in some_sizes(log.many):
                self.assertEqual(many_crated(log, sizes), len({in_crates(row, sizes) for row in rows}))

    def test_8_2_least_crated(self):
        self.assertEqual(least_crated(W, SIZES, CRATED), (2, 0, 1))
        self.assertEqual(least_crated(Log(5, ()), (2, 2, 1), ((1, 4), (0, 3), (2,))), (1, 4, 0, 3, 2))
        self.assertEqual(least_crated(Log(40, ()), (40,), (tuple(range(40)),)), tuple(range(40)))
        self.assertEqual(
            least_crated(Log(40, ()), (1,) * 40, tuple((vial,) for vial in range(39, -1, -1))), tuple(range(40))[::-1]
        )

    def test_8_2_one_crate_and_as_many_as_places(self):
        for log in some_small_logs():
            whole = (tuple(range(log.many)),)
            self.judges(True, can_be_crated, log, (log.many,), whole)
            self.check_history(log, (log.many,), whole, history_crated(log, (log.many,), whole))
            self.assertIsNone(bar_crated(log, (log.many,), whole))
            self.assertEqual(many_crated(log, (log.many,)), 1)
            rows = coming(log)
            for row in perms(log.many):
                single = tuple((vial,) for vial in row)
                self.judges(row in rows, can_be_crated, log, (1,) * log.many, single)
            self.assertEqual(many_crated(log, (1,) * log.many), len(rows))
        self.judges(True, can_be_crated, Log(1, ()), (1,), ((0,),))
        self.assertEqual(history_crated(Log(1, ()), (1,), ((0,),)), ())

    def test_8_2_large_racks(self):
        logs = big_logs() + [behind(big_log(1, spills=60, widest=2), big_log(2, spills=60, widest=2))]
        for seed, log in enumerate(logs):
            chance = random.Random(seed)
            row = end(log, led(log, lambda number, vials: tuple(chance.sample(vials, len(vials)))))
            for sizes in ((40,), (20, 20), (7, 1, 25, 1, 6), (5,) * 8, (1,) * 40, (39, 1)):
                crated = in_crates(row, sizes)
                self.judges(True, can_be_crated, log, sizes, crated)
                self.check_history(log, sizes, crated, history_crated(log, sizes, crated))
                self.assertIsNone(bar_crated(log, sizes, crated))
                other = in_crates(tuple(chance.sample(row, 40)), sizes)
                told = sorts_home(log, laid(other))
                self.judges(told, can_be_crated, log, sizes, other)
                if told:
                    self.check_history(log, sizes, other, history_crated(log, sizes, other))
                    self.assertIsNone(bar_crated(log, sizes, other))
                else:
                    self.assertIsNone(history_crated(log, sizes, other))
                    self.check_bar(log, sizes, other, bar_crated(log, sizes, other))

    def test_8_2_is_bar_crated_of_all_walks(self):
        for log in small_logs(1, 0) + small_logs(2, 2) + small_logs(3, 2)[::3] + small_logs(4, 1)[::3]:
            walks = all_walks(log)
            for sizes in some_sizes(log.many):
                for crated in sorted({in_crates(row, sizes) for row in perms(log.many)})[::2]:
                    for cuts in walks:
                        told = left_steps(cuts) < number_passing(laid(crated), cuts[0], cuts[-1])
                        self.judges(told, is_bar_crated, log, sizes, crated, cuts)

    def test_8_2_is_bar_crated_judges_things_of_all_kinds(self):
        self.judges(True, is_bar_crated, W, SIZES, CRATED, WALK)
        for thing in spoiled(WALK) + [(), (2, 1), (2, 2, 1), (2, 2, 1, 1, 1), list(WALK), (2, 2, True, 1), (2, 1, 1, 1)]:
            self.judges(False, is_bar_crated, W, SIZES, CRATED, thing)
        self.judges(False, is_bar_crated, W, SIZES, ((1,), (0, 2)), WALK)

    def test_8_2_what_no_sizes_are(self):
        for thing in NO_SIZES:
            for function in FOUR_OF_THEM:
                self.refuses(errors.NoSizes, function, W, thing, CRATED)
                self.refuses(errors.NoSizes, function, W, thing, None)
            self.refuses(errors.NoSizes, is_bar_crated, W, thing, CRATED, WALK)
            self.refuses(errors.NoSizes, is_bar_crated, W, thing, None, None)
            self.refuses(errors.NoSizes, many_crated, W, thing)

    def test_8_2_what_is_not_crated(self):
        for thing in NO_CRATED:
            for function in FOUR_OF_THEM:
                self.refuses(errors.NoCrated, function, W, SIZES, thing)
            self.refuses(errors.NoCrated, is_bar_crated, W, SIZES, thing, WALK)
            self.refuses(errors.NoCrated, is_bar_crated, W, SIZES, thing, None)
        self.refuses(errors.NoCrated, can_be_crated, W, (2, 1), CRATED)
        self.refuses(errors.NoCrated, can_be_crated, Log(4, ()), (2, 2), ((0, 1), (1, 2)))
        self.refuses(errors.NoCrated, can_be_crated, Log(4, ()), (2, 2), ((0, 1), (2, 3), ()))
        self.refuses(errors.NoCrated, can_be_crated, Log(4, ()), (2, 2), ((0, 1, 2), (3,)))
        self.refuses(errors.NoCrated, can_be_crated, Log(4, ()), (2, 2), ((0, 1, 2), (2, 3)))

    def test_8_2_eight_places_and_nine(self):
        for many in (9, 40):
            self.refuses(errors.TooMany, many_crated, Log(many, ()), (many,), most=8)
            self.refuses(errors.TooMany, many_crated, Log(many, ()), (1,) * many, most=8)
            self.refuses(errors.NoSizes, many_crated, Log(many, ()), (1,) * 8)
        mixed = Log(8, ((0, 7, 0),))
        self.assertEqual(many_crated(mixed, (1,) * 8), 40320)
        self.assertEqual(many_crated(mixed, (2, 2, 2, 2)), 2520)
        self.assertEqual(many_crated(mixed, (3, 5)), 56)
        self.assertEqual(many_crated(Log(8, ()), (1,) * 8), 1)
        for seed in range(3):
            log = big_log(seed, 8, 9, 5)
            for sizes in ((2, 3, 3), (1, 1, 5, 1)):
                every = {in_crates(row, sizes) for row in perms(8)}
                self.assertEqual(many_crated(log, sizes), sum(sorts_home(log, laid(crated)) for crated in every))

    def test_8_2_a_list_of_sizes_is_none(self):
        self.refuses(errors.NoSizes, many_crated, Log(8, ()), [8])
        self.refuses(errors.NoSizes, many_crated, Log(9, ()), [9])


if __name__ == "__main__":
    unittest.main()
