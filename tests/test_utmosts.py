"""Point 3.2 and the second fact."""

import random
import unittest

from tests.support import (
    Case, W, all_small_logs, big_logs, coming, number_passing, perms, small_logs, sorts_home, spoiled,
)
from walkingcut import errors
from walkingcut.histories import end, led
from walkingcut.logs import Log
from walkingcut.sorting import can_come
from walkingcut.utmosts import is_below, passing, utmost


def below(one, other):
    cuts = range(len(one) + 1)
    return all(number_passing(one, b, e) <= number_passing(other, b, e) for b in cuts for e in cuts)


class UtmostTest(Case):
    def test_3_2_utmost(self):
        self.assertEqual(utmost(W), (1, 2, 0))
        self.assertEqual(utmost(Log(3, ((1, 2, 0), (0, 1, 0)))), (2, 0, 1))
        self.assertEqual(utmost(Log(3, ())), (0, 1, 2))
        self.assertEqual(utmost(Log(1, ())), (0,))
        self.assertEqual(utmost(Log(40, ((0, 39, 0),))), tuple(range(40))[::-1])
        self.assertEqual(utmost(Log(4, ((0, 2, 0), (1, 3, 0)))), (2, 3, 1, 0))

    def test_3_2_utmost_is_what_descending_rows_lead_to(self):
        for log in all_small_logs() + big_logs():
            history = led(log, lambda number, vials: tuple(sorted(vials, reverse=True)))
            self.assertEqual(utmost(log), end(log, history))

    def test_3_2_passing(self):
        for many in (1, 2, 3, 4):
            log = Log(many, ())
            for row in perms(many):
                for begin in range(many + 1):
                    for cut in range(many + 1):
                        self.assertEqual(passing(log, row, begin, cut), number_passing(row, begin, cut))
        self.assertEqual(passing(Log(40, ()), tuple(range(40))[::-1], 40, 0), 40)
        self.assertEqual(passing(Log(40, ()), tuple(range(40))[::-1], 20, 20), 20)
        self.assertEqual(passing(Log(40, ()), tuple(range(40)), 40, 40), 0)

    def test_3_2_passing_refuses(self):
        for thing in spoiled((1, 2, 0)) + [(0, 1), (0, 1, 2, 3), (0, 1, 1)]:
            self.refuses(errors.NoArrangement, passing, W, thing, 0, 0)
            self.refuses(errors.NoArrangement, passing, W, thing, None, 4)
        for cut in [thing for thing in spoiled(0) if type(thing) is not int] + [-1, 4, 10 ** 39, -10 ** 39, True, False]:
            self.refuses(errors.NoCut, passing, W, (1, 2, 0), cut, 0)
            self.refuses(errors.NoCut, passing, W, (1, 2, 0), 3, cut)

    def test_3_2_is_below(self):
        for many in (1, 2, 3, 4):
            log = Log(many, ())
            for one in perms(many):
                for other in perms(many):
                    self.judges(below(one, other), is_below, log, one, other)

    def test_3_2_is_below_judges_the_last_one(self):
        for thing in spoiled((2, 1, 0)) + [(0, 1), (0, 1, 2, 3), (0, 1, 1), (2, True, 0), [2, 1, 0], ()]:
            self.judges(False, is_below, W, (0, 1, 2), thing)
            self.refuses(errors.NoArrangement, is_below, W, thing, (2, 1, 0))
            self.refuses(errors.NoArrangement, is_below, W, thing, None)

    def test_3_2_the_second_fact(self):
        for log in all_small_logs() + small_logs(5, 1):
            right = coming(log)
            top = utmost(log)
            for row in perms(log.many):
                self.judges(row in right, is_below, log, row, top)

    def test_3_2_large_racks(self):
        for seed, log in enumerate(big_logs()):
            chance = random.Random(seed)
            top = utmost(log)
            self.judges(True, can_come, log, top)
            for _ in range(3):
                row = end(log, led(log, lambda number, vials: tuple(chance.sample(vials, len(vials)))))
                self.judges(True, is_below, log, row, top)
                self.judges(below(top, row), is_below, log, top, row)
                other = tuple(chance.sample(row, 40))
                self.judges(sorts_home(log, other), is_below, log, other, top)
                self.judges(below(row, other), is_below, log, row, other)


if __name__ == "__main__":
    unittest.main()
