"""Point 4.1 and the third fact."""

import itertools
import unittest

from tests.support import (
    Case, W, all_small_logs, all_walks, big_log, big_logs, cheapest_rows, is_a_walk, left_steps, number_passing,
    small_logs, spoiled,
)
from walkingcut import errors
from walkingcut.cuts import is_walk, least_price, price, prices, walk
from walkingcut.logs import Log, behind
from walkingcut.utmosts import utmost


class WalkTest(Case):
    def test_4_1_is_walk_and_price_of_all_tuples(self):
        for log in small_logs(1, 0) + small_logs(2, 2) + small_logs(3, 2) + small_logs(4, 1):
            for cuts in itertools.product(range(-1, log.many + 2), repeat=len(log.spills) + 2):
                right = is_a_walk(log, cuts)
                self.judges(right, is_walk, log, cuts)
                if right:
                    self.assertEqual(price(log, cuts), left_steps(cuts))
                else:
                    self.refuses(errors.NoWalk, price, log, cuts)

    def test_4_1_where_a_walk_may_stand(self):
        log = Log(5, ((1, 3, 0),))
        for cut, right in ((0, True), (1, True), (2, False), (3, False), (4, True), (5, True), (-1, False), (6, False)):
            self.judges(right, is_walk, log, (2, cut, 3))
        self.assertEqual(price(log, (2, 4, 3)), 1)
        self.assertEqual(price(log, (2, 1, 3)), 1)
        self.assertEqual(price(log, (5, 0, 5)), 5)
        self.assertEqual(price(log, (0, 5, 0)), 5)
        self.assertEqual(price(log, (0, 4, 5)), 0)

    def test_4_1_a_walk_has_a_cut_for_each_spill_and_two_more(self):
        for cuts in ((), (2,), (2, 2), (2, 2, 2), (2, 2, 1, 1, 1)):
            self.judges(False, is_walk, W, cuts)
            self.refuses(errors.NoWalk, price, W, cuts)
        self.judges(True, is_walk, W, (2, 2, 1, 1))
        self.judges(True, is_walk, Log(1, ()), (0, 1))
        self.assertEqual(price(Log(1, ()), (1, 0)), 1)
        self.judges(False, is_walk, Log(1, ()), (1,))
        full = Log(40, ((0, 39, 0),) * 100)
        self.judges(True, is_walk, full, (20,) + (0, 40) * 50 + (20,))
        self.assertEqual(price(full, (20,) + (0, 40) * 50 + (20,)), 20 + 49 * 40 + 20)
        self.judges(False, is_walk, full, (20,) + (0, 40) * 49 + (0, 39) + (20,))

    def test_4_1_things_of_all_kinds(self):
        for thing in spoiled((2, 2, 1, 1)) + [[2, 2, 1, 1], (2, 2, True, 1), (2, 2, 1, True), (False, 2, 1, 1), "2211"]:
            self.judges(False, is_walk, W, thing)
            self.refuses(errors.NoWalk, price, W, thing)


class PriceTest(Case):
    def test_4_1_least_prices_of_small_logs(self):
        for log in small_logs(1, 0) + small_logs(2, 3) + small_logs(3, 2) + small_logs(4, 2)[::2]:
            least = {}
            for cuts in all_walks(log):
                pair = (cuts[0], cuts[-1])
                least[pair] = min(least.get(pair, 99), left_steps(cuts))
            table = prices(log)
            self.assertEqual([type(row) for row in (table,) + table], [tuple] * (log.many + 2))
            self.assertEqual([len(row) for row in (table,) + table], [log.many + 1] * (log.many + 2))
            for (begin, end), number in least.items():
                self.assertEqual(least_price(log, begin, end), number)
                self.assertEqual(table[begin][end], number)

    def test_4_1_a_walk_with_the_least_price(self):
        for log in all_small_logs():
            table = cheapest_rows(log)
            for begin in range(log.many + 1):
                for end in range(log.many + 1):
                    found = walk(log, begin, end)
                    self.assertTrue(is_a_walk(log, found))
                    self.assertEqual((found[0], found[-1]), (begin, end))
                    self.assertEqual(left_steps(found), table[begin][end])

    def test_4_1_the_third_fact(self):
        for log in all_small_logs() + small_logs(4, 3)[50::7] + small_logs(5, 2)[::3]:
            top = utmost(log)
            least = cheapest_rows(log)
            cuts = range(log.many + 1)
            told = tuple(tuple(number_passing(top, begin, end) for end in cuts) for begin in cuts)
            self.assertEqual(least, told)
            self.assertEqual(prices(log), told)

    def test_4_1_large_racks(self):
        for log in big_logs():
            table = cheapest_rows(log)
            self.assertEqual(prices(log), table)
            for begin, end in ((0, 0), (40, 0), (0, 40), (40, 40), (20, 20), (13, 27), (27, 13), (1, 1), (39, 39)):
                found = walk(log, begin, end)
                self.assertTrue(is_a_walk(log, found))
                self.assertEqual((found[0], found[-1], left_steps(found)), (begin, end, table[begin][end]))
                self.assertEqual(least_price(log, begin, end), table[begin][end])

    def test_1_1_logs_larger_than_constructed_ones(self):
        log = big_log(5, spills=100, widest=2)
        long = behind(behind(log, log), log)
        self.assertEqual(prices(long), cheapest_rows(long))
        self.assertEqual(left_steps(walk(long, 20, 20)), cheapest_rows(long)[20][20])
        self.judges(True, is_walk, long, walk(long, 30, 10))
        self.assertEqual(price(long, walk(long, 30, 10)), least_price(long, 30, 10))

    def test_4_1_what_no_cuts_are(self):
        for function in (least_price, walk):
            for cut in [thing for thing in spoiled(0) if type(thing) is not int] + [-1, 4, 10 ** 39, -10 ** 39]:
                self.refuses(errors.NoCut, function, W, cut, 0)
                self.refuses(errors.NoCut, function, W, 3, cut)
                self.refuses(errors.NoCut, function, W, cut, cut)
            self.refuses(errors.NoCut, function, Log(40, ()), 41, 0)
            self.refuses(errors.NoCut, function, Log(1, ()), 0, 2)

    def test_4_1_no_spill(self):
        for many in (1, 2, 40):
            log = Log(many, ())
            cuts = range(many + 1)
            self.assertEqual(prices(log), tuple(tuple(max(0, b - e) for e in cuts) for b in cuts))
            self.assertEqual(walk(log, many, 0), (many, 0))
            self.assertEqual(least_price(log, many, 0), many)

    def test_0_4_equal_calls_give_equal_answers(self):
        log = big_log(7)
        self.assertEqual(walk(log, 20, 20), walk(Log(log.many, log.spills), 20, 20))


if __name__ == "__main__":
    unittest.main()
