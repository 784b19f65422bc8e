"""Point 10.1."""

import itertools
import random
import unittest

from tests.support import (
    Case, W, all_small_logs, big_log, big_logs, coming, perms, small_logs, sorts_home, spoiled,
)
from walkingcut import errors
from walkingcut.histories import end, led
from walkingcut.logs import Log, behind
from walkingcut.witnesses import agree, agreeing, filling, fillings

WRONG = [
    (0, 1), (0, 1, 2, 3), (0, 1, 1), (1, 2, 3), (-1, 0, 1), (0, True, 2), (False, 1, 2), [0, 1, 2], "012", None, 3, (),
]


def from_filling(rows, first):
    """What can stand there behind a log, if all that comes of home is known, and how the rack was filled."""
    return {tuple(first[vial] for vial in row) for row in rows}


def renamed(first, row):
    """A row with each vial called by its place in another one."""
    return tuple(first.index(vial) for vial in row)


def sorted_home(spills, row):
    """Whether a row is brought home by sorting back some spills, however many."""
    cells = list(row)
    for first, last, _ in reversed(spills):
        cells[first:last + 1] = sorted(cells[first:last + 1])
    return cells == sorted(cells)


def random_end(chance, log, first):
    row = end(log, led(log, lambda number, vials: tuple(chance.sample(vials, len(vials)))))
    return tuple(first[vial] for vial in row)


class WitnessesTest(Case):
    def check_pair(self, one_log, other_log, pairs):
        """For all fillings and some pairs of arrangements, by the words."""
        ones, others = coming(one_log), coming(other_log)
        reached = [(first, from_filling(ones, first), from_filling(others, first)) for first in perms(one_log.many)]
        for one, other in pairs:
            right = [first for first, by_one, by_other in reached if one in by_one and other in by_other]
            self.judges(bool(right), agree, one_log, other_log, one, other)
            found = filling(one_log, other_log, one, other)
            if right:
                self.assertIs(type(found), tuple)
                self.assertIn(found, right)
            else:
                self.assertIsNone(found)

    def test_10_1_racks_of_one_to_three_places_gone_through(self):
        for many, most in ((1, 2), (2, 2), (3, 2)):
            logs = small_logs(many, most)
            pairs = list(itertools.product(perms(many), repeat=2))
            for one_log, other_log in itertools.product(logs, logs):
                self.check_pair(one_log, other_log, pairs)

    def test_10_1_racks_of_four_and_five(self):
        chance = random.Random(1)
        logs = small_logs(4, 3)
        for _ in range(60):
            one_log, other_log = chance.sample(logs, 2)
            pairs = [tuple(chance.sample(perms(4), 2)) for _ in range(12)] + [((0, 1, 2, 3), (0, 1, 2, 3))]
            self.check_pair(one_log, other_log, pairs)
        for seed in range(4):
            pairs = [tuple(chance.sample(perms(5), 2)) for _ in range(10)]
            self.check_pair(big_log(seed, 5, 3, 3), big_log(seed + 50, 5, 4, 3), pairs)

    def test_10_1_told_ones(self):
        still, turned = Log(3, ()), Log(3, ((0, 2, 5),))
        self.judges(True, agree, still, still, (2, 0, 1), (2, 0, 1))
        self.judges(False, agree, still, still, (2, 0, 1), (2, 1, 0))
        self.assertEqual(filling(still, turned, (2, 0, 1), (1, 0, 2)), (2, 0, 1))
        self.assertEqual(filling(W, still, (1, 2, 0), (0, 1, 2)), (0, 1, 2))
        self.judges(False, agree, W, still, (2, 1, 0), (0, 1, 2))
        self.judges(True, agree, W, W, (1, 2, 0), (2, 1, 0))
        self.judges(True, agree, Log(1, ()), Log(1, ()), (0,), (0,))

    def test_10_1_agreeing(self):
        for one_log, other_log in itertools.product(small_logs(3, 2), repeat=2):
            both = agreeing(one_log, other_log)
            self.assertIs(type(both), Log)
            self.assertEqual(both, Log(3, one_log.spills[::-1] + other_log.spills))
            ones, others = coming(one_log), coming(other_log)
            agreed = set()
            for first in perms(3):
                if (0, 1, 2) in from_filling(ones, first):
                    agreed |= from_filling(others, first)
            self.assertEqual(coming(both), agreed)

    def test_10_1_agreeing_may_be_larger_than_a_constructed_log(self):
        one_log, other_log = big_log(1), big_log(2)
        both = agreeing(one_log, other_log)
        self.assertEqual((both.many, both.spills), (40, one_log.spills[::-1] + other_log.spills))
        self.assertEqual(len(both.spills), 200)
        self.assertEqual(len(agreeing(both, both).spills), 400)

    def test_10_1_large_racks(self):
        chance = random.Random(3)
        logs = big_logs() + [behind(big_log(5, spills=80, widest=3), big_log(6, spills=80, widest=3))]
        for one_log, other_log in zip(logs, logs[1:] + logs[:1]):
            first = tuple(chance.sample(range(40), 40))
            one, other = random_end(chance, one_log, first), random_end(chance, other_log, first)
            self.check_large(one_log, other_log, one, other, True)
            one, other = tuple(chance.sample(range(40), 40)), list(first)
            swapped = chance.randrange(39)
            other[swapped], other[swapped + 1] = other[swapped + 1], other[swapped]
            for shown in (one, tuple(other)):
                told = sorted_home(one_log.spills[::-1] + other_log.spills, renamed(first, shown))
                self.check_large(one_log, other_log, first, shown, told)

    def check_large(self, one_log, other_log, one, other, told):
        self.judges(told, agree, one_log, other_log, one, other)
        found = filling(one_log, other_log, one, other)
        if told:
            self.assertEqual(sorted(found), list(range(40)))
            self.assertTrue(sorts_home(one_log, renamed(found, one)))
            self.assertTrue(sorts_home(other_log, renamed(found, other)))
        else:
            self.assertIsNone(found)

    def test_10_1_fillings_gone_through(self):
        logs = all_small_logs()[::3] + small_logs(4, 3)[5::61] + [big_log(seed, 5, 4, 3) for seed in range(3)]
        for log in logs:
            rows = coming(log)
            for row in perms(log.many)[::1 if log.many < 5 else 17]:
                number = sum(row in from_filling(rows, first) for first in perms(log.many))
                self.assertEqual(fillings(log, row), number)

    def test_10_1_eight_places_and_nine(self):
        home = tuple(range(8))
        self.assertEqual(fillings(Log(8, ()), home), 1)
        self.assertEqual(fillings(Log(8, ((0, 7, 3),)), home[::-1]), 40320)
        self.assertEqual(fillings(Log(8, ((0, 2, 3), (4, 5, 1))), home[::-1]), 12)
        for many in (9, 40):
            self.refuses(errors.TooMany, fillings, Log(many, ()), tuple(range(many)), most=8)
            self.refuses(errors.NoArrangement, fillings, Log(many, ()), tuple(range(many - 1)))
            self.refuses(errors.NoArrangement, fillings, Log(many, ()), None)

    def test_10_1_refuses(self):
        home, four = (0, 1, 2), Log(4, ())
        for function in (agree, filling):
            for one, other in ((home, home), (None, None), ((0, 1, 2, 3), home), (home, (0, 1, 2, 3))):
                self.refuses(errors.OtherRack, function, W, four, one, other)
                self.refuses(errors.OtherRack, function, four, W, one, other)
            for thing in WRONG + spoiled(home):
                if repr(thing) != repr(home):
                    self.refuses(errors.NoArrangement, function, W, W, thing, home)
                    self.refuses(errors.NoArrangement, function, W, W, home, thing)
        self.refuses(errors.OtherRack, agreeing, W, four)
        self.refuses(errors.OtherRack, agreeing, Log(40, ()), Log(1, ()))
        for thing in WRONG + spoiled(home):
            if repr(thing) != repr(home):
                self.refuses(errors.NoArrangement, fillings, W, thing)


if __name__ == "__main__":
    unittest.main()
