"""Point 7.2."""

import random
import unittest

from tests.support import Case, W, big_logs, each_top, perms, small_logs, spoiled, utmost_of
from walkingcut import errors
from walkingcut.logs import Log
from walkingcut.making import fewest_spills, inversions, steps_for

NO_ARRANGEMENTS = spoiled((1, 2, 0)) + [(0, 1), (0, 1, 2, 3), (0, 1, 1), [0, 1, 2], (2, True, 0), (False, 1, 2), ()]


def wrong_pairs(row):
    return sum(1 for at, vial in enumerate(row) for other in row[at + 1:] if other < vial)


class StepsTest(Case):
    def check_steps(self, log, row):
        found = steps_for(log, row)
        self.assertIs(type(found), Log)
        self.assertEqual(found.many, log.many)
        self.assertTrue(all(last == first + 1 and hand == 0 for first, last, hand in found.spills))
        self.assertTrue(all(0 <= first and last < log.many for first, last, _ in found.spills))
        self.assertEqual(len(found.spills), wrong_pairs(row))
        self.assertEqual(utmost_of(found), row)

    def test_7_2_steps_for_small_racks(self):
        for many in (1, 2, 3, 4, 5):
            for row in perms(many):
                self.check_steps(Log(many, ()), row)
        for row in perms(3):
            self.check_steps(W, row)

    def test_7_2_as_few_steps_as_can_be(self):
        # Gone through whole: no log of fewer spills of two places leads there.
        least = {}
        for log in all_step_logs(4, 6):
            least.setdefault(utmost_of(log), len(log.spills))
        for row in perms(4):
            self.assertEqual(len(steps_for(Log(4, ()), row).spills), least[row])

    def test_7_2_steps_for_large_racks(self):
        chance = random.Random(1)
        rows = [tuple(range(40)), tuple(range(40))[::-1], tuple(range(1, 40)) + (0,)]
        rows += [tuple(chance.sample(range(40), 40)) for _ in range(5)] + [utmost_of(log) for log in big_logs()]
        for row in rows:
            self.check_steps(Log(40, ()), row)
        self.assertEqual(len(steps_for(Log(40, ()), rows[1]).spills), 780)

    def test_7_2_inversions(self):
        for many in (1, 2, 3, 4, 5):
            for row in perms(many):
                self.assertEqual(inversions(Log(many, ()), row), wrong_pairs(row))
        chance = random.Random(2)
        for row in [tuple(chance.sample(range(40), 40)) for _ in range(5)]:
            self.assertEqual(inversions(Log(40, ()), row), wrong_pairs(row))
        self.assertEqual(inversions(Log(40, ()), tuple(range(40))[::-1]), 780)
        self.assertEqual(inversions(W, (1, 2, 0)), 2)

    def test_7_2_refuses(self):
        for function in (steps_for, inversions, fewest_spills):
            for thing in NO_ARRANGEMENTS:
                self.refuses(errors.NoArrangement, function, W, thing)
            self.refuses(errors.NoArrangement, function, Log(1, ()), ())
            self.refuses(errors.NoArrangement, function, Log(1, ()), (1,))
            self.refuses(errors.NoArrangement, function, Log(40, ()), tuple(range(39)))


def all_step_logs(many, most):
    """All logs of at most so many spills of neighbours, the shorter ones first."""
    steps = [(place, place + 1, 0) for place in range(many - 1)]
    found = [()]
    logs = []
    for _ in range(most + 1):
        logs.extend(Log(many, spills) for spills in found)
        found = [spills + (step,) for spills in found for step in steps]
    return logs


def least_numbers(many):
    """For each arrangement the least number of spills that lead to it: all logs gone through, shorter ones first."""
    stretches = [(first, last, 0) for last in range(many) for first in range(last)]
    known = {tuple(range(many)): 0}
    newest = [()]
    count = 0
    while newest:
        count += 1
        longer = [spills + (spill,) for spills in newest for spill in stretches]
        newest = []
        for spills in longer:
            row = utmost_of(Log(many, spills))
            if row not in known:
                known[row] = count
                newest.append(spills)
    return known


class FewestTest(Case):
    def check_fewest(self, log, row, number):
        found = fewest_spills(log, row)
        self.assertIs(type(found), tuple)
        least, made = found
        self.assertEqual(least, number)
        self.assertIs(type(made), Log)
        self.assertEqual((made.many, len(made.spills)), (log.many, number))
        self.assertTrue(all(hand == 0 for _, _, hand in made.spills))
        self.assertEqual(utmost_of(made), row)

    def test_7_2_fewest_spills(self):
        for many in (1, 2, 3, 4, 5, 6):
            known = least_numbers(many)
            rows = perms(many)
            self.assertEqual(set(rows), set(known))
            for row in rows if many < 6 else rows[::9]:
                self.check_fewest(Log(many, ()), row, known[row])

    def test_7_2_no_log_of_fewer_spills_of_all_logs(self):
        least = {}
        for log in small_logs(3, 3) + small_logs(4, 3):
            least.setdefault(utmost_of(log), len(log.spills))
        for row, number in least.items():
            self.check_fewest(Log(len(row), ()), row, number)

    def test_7_2_told_arrangements(self):
        self.check_fewest(Log(1, ()), (0,), 0)
        self.check_fewest(W, (0, 1, 2), 0)
        self.check_fewest(W, (2, 1, 0), 1)
        self.check_fewest(W, (1, 2, 0), 2)
        self.check_fewest(Log(6, ((0, 5, 3),)), (5, 4, 3, 2, 1, 0), 1)

    def test_7_2_six_places_and_seven(self):
        for many in (7, 8, 40):
            self.refuses(errors.TooMany, fewest_spills, Log(many, ()), tuple(range(many)), most=6)
            self.refuses(errors.NoArrangement, fewest_spills, Log(many, ()), tuple(range(many - 1)))
            self.refuses(errors.NoArrangement, fewest_spills, Log(many, ()), None)
        self.assertEqual(fewest_spills(Log(6, ()), tuple(range(6)))[0], 0)
        self.assertEqual(inversions(Log(7, ()), tuple(range(7))), 0)

    def test_0_4_the_log_that_is_passed_does_not_matter_but_for_its_rack(self):
        for log in each_top(4)[::5]:
            for row in perms(4)[::5]:
                self.assertEqual(fewest_spills(log, row), fewest_spills(Log(4, ()), row))
                self.assertEqual(steps_for(log, row), steps_for(Log(4, ()), row))


if __name__ == "__main__":
    unittest.main()
