"""Point 3.1 and the first fact."""

import random
import unittest

from tests.support import (
    Case, W, all_small_logs, big_logs, coming, ends_with, perms, small_logs, sorts_home, spoiled,
)
from walkingcut import errors
from walkingcut.histories import end, led
from walkingcut.logs import Log
from walkingcut.sorting import can_come, history_for, sorted_back

NONE = ((), (0, 1), (0, 1, 1), (1, 2, 3), (0, 1, 2, 3), [0, 1, 2], (0, True, 2), (False, 1, 2), None, "012")


class SortingTest(Case):
    def test_3_1_what_can_come_is_told_of_all_arrangements(self):
        for log in all_small_logs() + small_logs(5, 1):
            right = coming(log)
            for row in perms(log.many):
                self.judges(row in right, can_come, log, row)

    def test_3_1_a_history_for_just_what_can_come(self):
        for log in all_small_logs() + small_logs(5, 1):
            right = coming(log)
            for row in perms(log.many):
                history = history_for(log, row)
                if row in right:
                    self.assertEqual(ends_with(log, history), row)
                else:
                    self.assertIsNone(history)

    def test_3_1_sorted_back(self):
        self.assertEqual(sorted_back(W, (2, 1, 0)), (0, 2, 1))
        self.assertEqual(sorted_back(W, (1, 2, 0)), (0, 1, 2))
        self.assertEqual(sorted_back(Log(3, ()), (2, 0, 1)), (2, 0, 1))
        self.assertEqual(sorted_back(Log(1, ()), (0,)), (0,))
        self.assertEqual(sorted_back(Log(4, ((0, 1, 0), (2, 3, 0), (1, 2, 0))), (3, 2, 1, 0)), (1, 3, 0, 2))

    def test_3_1_the_first_fact(self):
        for log in all_small_logs():
            home = tuple(range(log.many))
            for row in perms(log.many):
                self.assertEqual(sorted_back(log, row) == home, can_come(log, row))

    def test_3_1_large_racks(self):
        for seed, log in enumerate(big_logs()):
            chance = random.Random(seed)
            for _ in range(5):
                history = led(log, lambda number, vials: tuple(chance.sample(vials, len(vials))))
                row = end(log, history)
                self.judges(True, can_come, log, row)
                self.assertEqual(ends_with(log, history_for(log, row)), row)
                other = tuple(chance.sample(row, 40))
                self.judges(sorts_home(log, other), can_come, log, other)
                self.assertEqual(history_for(log, other) is not None, sorts_home(log, other))

    def test_3_1_what_no_arrangement_is(self):
        for function in (sorted_back, can_come, history_for):
            for thing in NONE:
                self.refuses(errors.NoArrangement, function, W, thing)
            for thing in spoiled((1, 2, 0)):
                self.refuses(errors.NoArrangement, function, W, thing)
            self.refuses(errors.NoArrangement, function, Log(40, ()), tuple(range(39)))
            self.refuses(errors.NoArrangement, function, Log(1, ()), ())

    def test_0_4_equal_calls_give_equal_answers(self):
        again = Log(3, ((0, 1, 0), (1, 2, 1)))
        self.assertEqual(history_for(W, (1, 2, 0)), history_for(again, (1, 2, 0)))
        self.assertEqual(sorted_back(W, (2, 1, 0)), sorted_back(again, (2, 1, 0)))
        self.assertIsInstance(history_for(W, (1, 2, 0)), tuple)


if __name__ == "__main__":
    unittest.main()
