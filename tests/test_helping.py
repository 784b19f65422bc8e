"""Point 9.3."""

import random
import unittest

from tests.support import (
    Case, W, all_claims, big_log, big_logs, coming, has_all, in_order, some_small_logs, sorts_home, spoiled,
)
from tests.test_claims import WRONG, random_claims
from walkingcut import errors
from walkingcut.helping import helpers, helpers_at
from walkingcut.histories import end, led
from walkingcut.logs import Log, behind

NO_NUMBERS = [thing for thing in spoiled(0) if type(thing) is not int] + [-1, 3, 10 ** 39, True, False, "0", (0,)]


def pairs_of(many):
    return [(first, last) for first in range(many) for last in range(first + 1, many)]


def shortest(helpful):
    """By the words: the pairs within which no other pair helps."""
    return sorted(
        (first, last) for first, last in helpful
        if not any(first <= low and high <= last and (low, high) != (first, last) for low, high in helpful)
    )


def with_one_more(log, number, pair):
    return Log(log.many, log.spills[:number] + (pair + (0,),) + log.spills[number:])


def home_with(log, number, pair, least):
    """Whether an arrangement is sorted home with one more spill, also of long logs."""
    cells = list(least)
    spills = list(log.spills)
    spills.insert(number, pair + (0,))
    for first, last, _ in reversed(spills):
        cells[first:last + 1] = sorted(cells[first:last + 1])
    return cells == sorted(cells)


class HelpingTest(Case):
    def test_9_3_small_racks_gone_through(self):
        for log in some_small_logs()[::2]:
            pairs = pairs_of(log.many)
            for number in range(len(log.spills) + 1):
                rows = {pair: coming(with_one_more(log, number, pair)) for pair in pairs}
                for claims in all_claims(log.many):
                    helpful = [pair for pair in pairs if any(has_all(row, claims) for row in rows[pair])]
                    self.assertEqual(helpers_at(log, claims, number), shortest(helpful))
                    if number == len(log.spills):
                        self.assertEqual(helpers(log, claims), shortest(helpful))

    def test_9_3_racks_of_five_and_six(self):
        chance = random.Random(1)
        for seed in range(6):
            log = big_log(seed, 5 + seed % 2, 3, 4)
            pairs = pairs_of(log.many)
            for number in range(4):
                rows = {pair: coming(with_one_more(log, number, pair)) for pair in pairs}
                for claims in chance.sample(all_claims(log.many), 8):
                    helpful = [pair for pair in pairs if any(has_all(row, claims) for row in rows[pair])]
                    self.assertEqual(helpers_at(log, claims, number), shortest(helpful))

    def test_9_3_told_ones(self):
        self.assertEqual(helpers(W, ((2, 0),)), [(0, 1)])
        self.assertEqual(helpers_at(W, ((2, 0),), 0), [(1, 2)])
        self.assertEqual(helpers_at(W, ((2, 0),), 1), [(0, 2)])
        self.assertEqual(helpers_at(W, ((2, 0),), 2), [(0, 1)])
        self.assertEqual(helpers(Log(4, ()), ((0, 1), (3, 2))), [(0, 3)])
        self.assertEqual(helpers(Log(5, ()), ((1, 3),)), [(1, 3)])
        self.assertEqual(helpers(Log(4, ((0, 2, 0),)), ((0, 3),)), [(2, 3)])

    def test_9_3_claims_that_can_be_true_already(self):
        for log in (Log(2, ()), W, Log(40, ()), Log(40, ((0, 39, 0),))):
            neighbours = [(place, place + 1) for place in range(log.many - 1)]
            self.assertEqual(helpers(log, ()), neighbours)
            self.assertEqual(helpers(log, ((1, 1),)), neighbours)
            for number in range(len(log.spills) + 1):
                self.assertEqual(helpers_at(log, (), number), neighbours)

    def test_9_3_a_rack_of_one_place_has_no_stretch(self):
        self.assertEqual(helpers(Log(1, ()), ()), [])
        self.assertEqual(helpers(Log(1, ()), ((0, 0),)), [])
        self.assertEqual(helpers_at(Log(1, ()), (), 0), [])

    def test_9_3_large_racks(self):
        logs = big_logs() + [behind(big_log(1, spills=60, widest=2), big_log(2, spills=60, widest=2))]
        for seed, log in enumerate(logs):
            chance = random.Random(seed)
            row = list(end(log, led(log, lambda number, vials: tuple(chance.sample(vials, len(vials))))))
            first = chance.randrange(30)
            row[first:first + 9] = chance.sample(row[first:first + 9], 9)
            claims = random_claims(chance, row, 12)
            self.check_large(log, claims, len(log.spills))
            self.assertEqual(helpers(log, claims), helpers_at(log, claims, len(log.spills)))
            self.check_large(log, claims, chance.randrange(len(log.spills) + 1))
            self.check_large(log, (), 0)

    def check_large(self, log, claims, number):
        least = in_order(40, claims)
        helpful = {pair for pair in pairs_of(40) if home_with(log, number, pair, least)}
        self.assertEqual(sorts_home(log, least) and helpful != set(pairs_of(40)), False)
        self.assertEqual(helpers_at(log, claims, number), shortest(helpful))

    def test_9_3_refuses(self):
        for thing in WRONG + spoiled(((0, 1), (2, 0))):
            self.refuses(errors.NoClaims, helpers, W, thing)
            self.refuses(errors.NoClaims, helpers_at, W, thing, 0)
            self.refuses(errors.NoClaims, helpers_at, W, thing, None)
        for number in NO_NUMBERS:
            self.refuses(errors.NoNumber, helpers_at, W, ((0, 1),), number)
        self.refuses(errors.NoNumber, helpers_at, Log(1, ()), (), 1)
        full = Log(40, ((0, 1, 0),) * 100)
        self.assertEqual(len(helpers_at(full, (), 100)), 39)
        self.refuses(errors.NoNumber, helpers_at, full, (), 101)

    def test_0_4_the_list_is_new(self):
        for function in (lambda: helpers(W, ((2, 0),)), lambda: helpers_at(W, ((2, 0),), 2)):
            found = function()
            found.clear()
            self.assertEqual(function(), [(0, 1)])


if __name__ == "__main__":
    unittest.main()
