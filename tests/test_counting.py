"""Point 12.1."""

import itertools
import math
import random
import unittest

from tests.support import (
    Case, W, all_claims, all_small_logs, big_log, big_logs, coming, each_top, has_all, perms, small_logs, sorts_home,
    spoiled,
)
from tests.test_claims import WRONG as WRONG_CLAIMS
from walkingcut import errors
from walkingcut.counting import (
    all_arrangements, arrangement_at, arrangement_number, many_arrangements, many_with, next_one,
)
from walkingcut.logs import Log, behind
from walkingcut.utmosts import utmost

WRONG_ROWS = [
    (0, 1), (0, 1, 2, 3), (0, 1, 1), (1, 2, 3), (-1, 0, 1), (0, True, 2), (False, 1, 2), [0, 1, 2], "012", None, 3, (),
]
NO_NUMBERS = [thing for thing in spoiled(0) if type(thing) is not int] + [-1, 4, 5, 10 ** 39, True, False, "0", (0,)]
FULL8 = Log(8, ((0, 7, 0),))


class CountingTest(Case):
    def check_counted(self, log):
        rows = sorted(coming(log))
        self.assertEqual(many_arrangements(log), len(rows))
        self.assertEqual(all_arrangements(log), rows)
        for number, row in enumerate(rows):
            self.assertEqual(arrangement_at(log, number), row)
            self.assertEqual(arrangement_number(log, row), number)
        for number in (-1, len(rows), len(rows) + 1):
            self.refuses(errors.NoNumber, arrangement_at, log, number)
        for row in perms(log.many):
            greater = [other for other in rows if other > row]
            self.assertEqual(next_one(log, row), greater[0] if greater else None)
            if row not in rows:
                self.refuses(errors.NeverComes, arrangement_number, log, row)

    def test_12_1_small_racks_gone_through(self):
        for log in all_small_logs() + each_top(4) + small_logs(4, 3)[7::40]:
            self.check_counted(log)

    def test_12_1_racks_of_five_and_six(self):
        for log in each_top(5)[::9] + [big_log(seed, 6, 3, 4) for seed in range(3)]:
            self.check_counted(log)

    def test_12_1_many_with_gone_through(self):
        for log in all_small_logs()[::2] + each_top(4)[::2]:
            rows = coming(log)
            for claims in all_claims(log.many):
                self.assertEqual(many_with(log, claims), sum(has_all(row, claims) for row in rows))

    def test_12_1_racks_of_seven_and_eight(self):
        chance = random.Random(2)
        for log in (big_log(1, 7, 6, 3), big_log(2, 8, 4, 4), big_log(4, 8, 12, 2), Log(8, ())):
            rows = sorted(coming(log))
            self.assertEqual(many_arrangements(log), len(rows))
            for number in [0, len(rows) - 1] + [chance.randrange(len(rows)) for _ in range(20)]:
                self.assertEqual(arrangement_at(log, number), rows[number])
                self.assertEqual(arrangement_number(log, rows[number]), number)
                claims = tuple(sorted((rows[number][place], place) for place in chance.sample(range(log.many), 3)))
                self.assertEqual(many_with(log, claims), sum(has_all(row, claims) for row in rows))
                told = rows[number + 1] if number + 1 < len(rows) else None
                self.assertEqual(next_one(log, rows[number]), told)
            if len(rows) <= 5040:
                self.assertEqual(all_arrangements(log), rows)
            else:
                self.refuses(errors.TooMany, all_arrangements, log, most=5040)

    def test_12_1_the_example(self):
        self.assertEqual((many_arrangements(W), arrangement_at(W, 3)), (4, (1, 2, 0)))
        self.assertEqual(all_arrangements(W), [(0, 1, 2), (0, 2, 1), (1, 0, 2), (1, 2, 0)])
        self.assertEqual(arrangement_number(W, (1, 0, 2)), 2)
        self.assertEqual(many_with(W, ((0, 0),)), 2)
        self.assertEqual(next_one(W, (0, 2, 1)), (1, 0, 2))

    def test_12_1_numbers(self):
        self.assertEqual(arrangement_at(W, 0), (0, 1, 2))
        for number in NO_NUMBERS:
            self.refuses(errors.NoNumber, arrangement_at, W, number)
        for log in (Log(1, ()), Log(8, ())):
            self.assertEqual(arrangement_at(log, 0), tuple(range(log.many)))
            self.assertEqual(arrangement_number(log, tuple(range(log.many))), 0)
            for number in (1, -1, True, False):
                self.refuses(errors.NoNumber, arrangement_at, log, number)
        self.assertEqual(arrangement_at(FULL8, 40319), tuple(range(8))[::-1])
        self.assertEqual(arrangement_number(FULL8, tuple(range(8))[::-1]), 40319)
        self.refuses(errors.NoNumber, arrangement_at, FULL8, 40320)

    def test_12_1_all_rows_of_a_full_rack_have_their_numbers(self):
        for number, row in enumerate(itertools.permutations(range(8))):
            if number % 500 == 7:
                self.assertEqual(arrangement_at(FULL8, number), row)
                self.assertEqual(arrangement_number(FULL8, row), number)

    def test_12_1_5040_arrangements_and_more(self):
        self.assertEqual(all_arrangements(Log(7, ((0, 6, 0),))), perms(7))
        self.assertEqual(len(all_arrangements(Log(8, ((1, 7, 0),)))), 5040)
        self.refuses(errors.TooMany, all_arrangements, FULL8, most=5040)
        more = Log(8, ((1, 7, 0), (0, 1, 0)))
        self.assertEqual(many_arrangements(more), 10080)
        self.refuses(errors.TooMany, all_arrangements, more, most=5040)
        self.assertEqual(all_arrangements(Log(8, ())), [tuple(range(8))])

    def test_12_1_eight_places_and_nine(self):
        self.assertEqual(many_arrangements(FULL8), math.factorial(8))
        self.assertEqual(many_with(FULL8, ((3, 3), (4, 2))), math.factorial(6))
        for many in (9, 40):
            log, home = Log(many, ()), tuple(range(many))
            self.refuses(errors.TooMany, many_arrangements, log, most=8)
            self.refuses(errors.TooMany, all_arrangements, log, most=8)
            self.refuses(errors.TooMany, many_with, log, (), most=8)
            self.refuses(errors.TooMany, many_with, log, ((0, 1),), most=8)
            for wrong in (0, 1, None, -1, True):
                self.refuses(errors.TooMany, arrangement_at, log, wrong, most=8)
            for wrong in (home, home[::-1], None, (0, 1)):
                self.refuses(errors.TooMany, arrangement_number, log, wrong, most=8)
            for thing in WRONG_CLAIMS[2:3] + [None, ((many, 0),), ((0, True),)]:
                self.refuses(errors.NoClaims, many_with, log, thing)

    def test_12_1_what_cannot_come(self):
        self.refuses(errors.NeverComes, arrangement_number, W, (2, 1, 0))
        self.refuses(errors.NeverComes, arrangement_number, Log(8, ()), tuple(range(8))[::-1])
        self.assertEqual(many_with(W, ((2, 0),)), 0)
        self.assertEqual(many_with(W, ((0, 1), (1, 2))), 0)

    def test_12_1_the_next_one_of_the_least_and_of_the_greatest(self):
        self.assertEqual(next_one(W, (0, 1, 2)), (0, 2, 1))
        self.assertIsNone(next_one(W, (1, 2, 0)))
        self.assertIsNone(next_one(W, (2, 1, 0)))
        self.assertIsNone(next_one(Log(1, ()), (0,)))
        self.assertIsNone(next_one(Log(40, ()), tuple(range(40))))
        self.assertEqual(next_one(Log(3, ((1, 2, 0),)), (0, 1, 2)), (0, 2, 1))

    def test_12_1_the_next_one_of_one_that_cannot_come(self):
        self.assertEqual(next_one(Log(4, ((2, 3, 0),)), (0, 1, 2, 3)), (0, 1, 3, 2))
        self.assertIsNone(next_one(Log(4, ((2, 3, 0),)), (0, 2, 1, 3)))
        self.assertEqual(next_one(Log(4, ((0, 1, 0),)), (0, 3, 2, 1)), (1, 0, 2, 3))

    def test_12_1_the_next_one_of_large_racks(self):
        chance = random.Random(5)
        for log in big_logs() + [behind(big_log(1, spills=90, widest=3), big_log(2, spills=90, widest=3))]:
            home = tuple(range(40))
            starts = [home, utmost(log), home[::-1], tuple(chance.sample(home, 40)), (1, 0) + home[2:]]
            for row in starts:
                self.check_next(log, row, next_one(log, row))
            row, seen = home, []
            while row is not None and len(seen) < 30:
                seen.append(row)
                row = next_one(log, row)
            self.assertEqual(seen, sorted(set(seen)))
            self.assertTrue(all(sorts_home(log, each) for each in seen))

    def check_next(self, log, row, found):
        """That it can come, and that no row between can: each row between begins as one of the tried ones does."""
        if found is not None:
            self.assertGreater(found, row)
            self.assertTrue(sorts_home(log, found))
        for place in range(39, -1, -1):
            for vial in sorted(row[place:]):
                begun = row[:place] + (vial,)
                least = begun + tuple(sorted(set(range(40)) - set(begun)))
                if vial > row[place] and (found is None or begun < found[:place + 1]):
                    self.assertFalse(sorts_home(log, least))
                if found is not None and begun == found[:place + 1] and vial > row[place]:
                    self.assertEqual(found, least)

    def test_12_1_numbers_go_up_by_next_ones(self):
        for log in (W, big_log(3, 6, 5, 4), big_log(9, 8, 4, 3)):
            row = tuple(range(log.many))
            for number in range(min(many_arrangements(log), 60)):
                self.assertEqual(arrangement_number(log, row), number)
                row = next_one(log, row)
            if many_arrangements(log) <= 60:
                self.assertIsNone(row)

    def test_12_1_long_logs(self):
        long = W
        for _ in range(60):
            long = behind(long, W)
        self.assertEqual(many_arrangements(long), 6)
        self.assertEqual(all_arrangements(long), perms(3))
        self.assertEqual(arrangement_at(long, 5), (2, 1, 0))
        self.assertEqual(next_one(long, (2, 0, 1)), (2, 1, 0))

    def test_12_1_refuses(self):
        for thing in WRONG_ROWS + spoiled((0, 1, 2)):
            if repr(thing) != "(0, 1, 2)":
                self.refuses(errors.NoArrangement, arrangement_number, W, thing)
                self.refuses(errors.NoArrangement, next_one, W, thing)
        for thing in WRONG_CLAIMS + spoiled(((0, 1), (2, 0))):
            self.refuses(errors.NoClaims, many_with, W, thing)

    def test_0_4_the_list_is_new(self):
        all_arrangements(W).clear()
        self.assertEqual(len(all_arrangements(W)), 4)


if __name__ == "__main__":
    unittest.main()
