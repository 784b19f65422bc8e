"""Point 4.2."""

import random
import unittest

from tests.support import (
    Case, W, all_small_logs, big_log, big_logs, cheapest_rows, one_behind, some_small_logs, spoiled,
)
from walkingcut import errors
from walkingcut.again import prices_again, prices_behind, times_still
from walkingcut.cuts import prices
from walkingcut.logs import Log, behind

MOST = 10 ** 30


def square(side, seed, most=9):
    chance = random.Random(seed)
    return tuple(tuple(chance.randrange(most + 1) for _ in range(side)) for _ in range(side))


class PricesBehindTest(Case):
    def test_4_2_least_sums(self):
        one, other = ((0, 5), (2, 1)), ((7, 0), (1, 4))
        self.assertEqual(prices_behind(one, other), ((6, 0), (2, 2)))
        self.assertEqual(prices_behind(other, one), ((2, 1), (1, 5)))
        for side in (2, 3, 5, 8):
            for seed in range(5):
                one, other = square(side, seed), square(side, seed + 90, 10 ** 39)
                self.assertEqual(prices_behind(one, other), one_behind(one, other))
                self.assertEqual(prices_behind(other, one), one_behind(other, one))

    def test_4_2_sides_of_2_and_of_41(self):
        for side in (2, 41):
            one, other = square(side, 1), square(side, 2, 99)
            found = prices_behind(one, other)
            self.assertEqual(found, one_behind(one, other))
            self.assertEqual([type(row) for row in (found,) + found], [tuple] * (side + 1))
        for side in (0, 1, 42, 60):
            self.refuses(errors.NoPrices, prices_behind, square(side, 1), square(side, 1))
            self.refuses(errors.NoPrices, prices_behind, square(2, 1), square(side, 1))
            self.refuses(errors.NoPrices, prices_behind, square(side, 1), square(2, 1))

    def test_4_2_the_prices_of_the_one_log_behind_the_other(self):
        logs = some_small_logs()
        for one in logs[::3]:
            for other in logs[::4]:
                if one.many == other.many:
                    self.assertEqual(prices_behind(prices(one), prices(other)), cheapest_rows(behind(one, other)))
        one, other = big_log(1, spills=20, widest=5), big_log(2, spills=20, widest=5)
        self.assertEqual(prices_behind(prices(one), prices(other)), prices(behind(one, other)))

    def test_4_2_what_no_prices_are(self):
        right = ((0, 5), (2, 1))
        for wrong in [thing for thing in spoiled(right) if not is_right_square(thing)] + [
            (), ((),), ((0,),), ((0, 0),), ((0, 0), (0,)), ((0, 0), (0, 0, 0)), ((0, 0), (0, 0), (0, 0)),
            ((0, 0, 0), (0, 0, 0)), [(0, 0), (0, 0)], ([0, 0], (0, 0)), ((0, 0), [0, 0]), ((0, False), (0, 0)),
            ((0, 0), (True, 0)), ((0, -1), (0, 0)), ((0, 0), (0, -1)), ((0, 0), (-1, 0)), 0, "00", None,
        ]:
            self.refuses(errors.NoPrices, prices_behind, wrong, right)
            self.refuses(errors.NoPrices, prices_behind, right, wrong)
            self.refuses(errors.NoPrices, prices_behind, wrong, wrong)

    def test_4_2_unlike_sizes(self):
        self.refuses(errors.NoPrices, prices_behind, square(2, 1), square(3, 1))
        self.refuses(errors.NoPrices, prices_behind, square(3, 1), square(2, 1))
        self.refuses(errors.NoPrices, prices_behind, square(41, 1), square(40, 1))


def is_right_square(thing):
    """Of what is spoiled of a square of two: a number can give way to a greater one."""
    if type(thing) is not tuple or len(thing) != 2 or any(type(row) is not tuple or len(row) != 2 for row in thing):
        return False
    return all(type(number) is int and number >= 0 for row in thing for number in row)


def folded(log, times):
    """The prices of a log so many times behind itself, by squares; None for no times at all."""
    found, power = None, cheapest_rows(log)
    while times:
        if times % 2:
            found = power if found is None else one_behind(found, power)
        power = one_behind(power, power)
        times //= 2
    return found


class AgainTest(Case):
    def test_4_2_prices_again(self):
        for log in all_small_logs()[::2]:
            for times in (1, 2, 3, 4, 5, 9):
                self.assertEqual(prices_again(log, times), cheapest_rows(Log(log.many, log.spills * times)))

    def test_4_2_prices_again_many_times(self):
        for log in some_small_logs()[::3]:
            for times in (1000, 10 ** 12 + 1, MOST - 1, MOST):
                self.assertEqual(prices_again(log, times), folded(log, times))

    def test_4_2_prices_once_are_the_prices(self):
        for log in big_logs():
            self.assertEqual(prices_again(log, 1), cheapest_rows(log))

    def test_4_2_what_no_times_are(self):
        for times in [thing for thing in spoiled(1) if thing != 2 ** 64] + [0, -1, MOST + 1, -MOST, True, False, "1"]:
            self.refuses(errors.NoNumber, prices_again, W, times)

    def test_4_2_times_still(self):
        self.assertEqual(times_still(Log(1, ())), 1)
        self.assertEqual(times_still(Log(40, ())), 1)
        self.assertEqual(times_still(Log(2, ((0, 1, 0),))), 1)
        self.assertEqual(times_still(W), 2)
        self.assertEqual(times_still(Log(40, ((0, 39, 3),))), 1)
        self.assertEqual(times_still(Log(40, tuple((k, k + 1, 0) for k in range(39)))), 39)
        for log in all_small_logs():
            table = cheapest_rows(log)
            still, now = 1, table
            while True:
                further = one_behind(now, table)
                if further == now:
                    break
                still, now = still + 1, further
            self.assertEqual(times_still(log), still)

    def test_4_2_times_still_of_large_racks(self):
        for log in big_logs():
            times = times_still(log)
            self.assertIs(type(times), int)
            last = prices_again(log, times)
            self.assertEqual(last, cheapest_rows(behind_itself(log, times)))
            for more in (times + 1, times + 7, MOST):
                self.assertEqual(prices_again(log, more), last)
            self.assertEqual(cheapest_rows(behind_itself(log, times + 1)), last)
            if times > 1:
                self.assertNotEqual(prices_again(log, times - 1), last)
                self.assertEqual(prices_again(log, times - 1), cheapest_rows(behind_itself(log, times - 1)))


def behind_itself(log, times):
    """The log so many times, also beyond what can be constructed."""
    found = log
    for _ in range(times - 1):
        found = behind(found, log)
    return found


if __name__ == "__main__":
    unittest.main()
