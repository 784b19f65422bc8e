"""Point 5.5."""

import random
import unittest

from tests.support import (
    Case, W, all_claims, big_log, coming, has_all, in_order, small_logs, some_small_logs, sorts_home, spoiled,
)
from tests.test_claims import WRONG, random_claims
from walkingcut import errors
from walkingcut.histories import end, led
from walkingcut.logs import Log
from walkingcut.ordering import left_pairs, left_word

BARRED = ((0, 1), (1, 2))


class OrderingTest(Case):
    def check_all(self, log, lists_of_claims):
        right = coming(log)
        pairs = [(one, other) for one in range(log.many) for other in range(log.many) if one != other]
        for claims in lists_of_claims:
            rows = [row for row in right if has_all(row, claims)]
            if not rows:
                self.refuses(errors.Barred, left_pairs, log, claims)
                self.refuses(errors.Barred, left_word, log, claims, 0, 1)
                continue
            certain = []
            for one, other in pairs:
                left = [row.index(one) < row.index(other) for row in rows]
                expected = "surely" if all(left) else "open" if any(left) else "never"
                self.assertEqual(left_word(log, claims, one, other), expected)
                certain.extend([(one, other)] if all(left) else [])
            self.assertEqual(left_pairs(log, claims), certain)

    def test_5_5_small_racks(self):
        for log in some_small_logs():
            if log.many > 1:
                self.check_all(log, all_claims(log.many))

    def test_5_5_racks_of_five_and_six(self):
        chance = random.Random(1)
        for log in small_logs(5, 2)[3::9] + [big_log(seed, 6, 4, 4) for seed in range(12)]:
            self.check_all(log, [()] + chance.sample(all_claims(log.many), 12))

    def test_5_5_words(self):
        log = Log(4, ((0, 1, 0),))
        self.assertEqual(left_word(log, (), 0, 1), "open")
        self.assertEqual(left_word(log, (), 1, 0), "open")
        self.assertEqual(left_word(log, (), 0, 3), "surely")
        self.assertEqual(left_word(log, (), 3, 0), "never")
        self.assertEqual(left_word(log, ((1, 0),), 0, 1), "never")
        self.assertEqual(left_word(log, ((1, 0),), 1, 0), "surely")

    def test_5_5_racks_of_1_and_of_40_places(self):
        self.assertEqual(left_pairs(Log(1, ()), ()), [])
        self.assertEqual(left_pairs(Log(1, ()), ((0, 0),)), [])
        for vial in (0, 1):
            self.refuses(errors.NoVial, left_word, Log(1, ()), (), 0, vial)
        in_line = [(one, other) for one in range(40) for other in range(40) if one < other]
        self.assertEqual(left_pairs(Log(40, ()), ()), in_line)
        mixed = Log(40, ((0, 39, 0),))
        self.assertEqual(left_pairs(mixed, ()), [])
        self.assertEqual(left_word(mixed, (), 39, 0), "open")
        turned = tuple((vial, 39 - vial) for vial in range(40))
        self.assertEqual(left_pairs(mixed, turned), sorted((other, one) for one, other in in_line))
        self.assertEqual(left_pairs(mixed, ((5, 0), (6, 39))), sorted(
            [(5, vial) for vial in range(40) if vial != 5] + [(vial, 6) for vial in range(40) if vial not in (5, 6)]
        ))

    def test_5_5_large_racks(self):
        for seed in range(3):
            log = big_log(seed, spills=60, widest=4)
            chance = random.Random(seed)
            row = end(log, led(log, lambda number, vials: tuple(chance.sample(vials, len(vials)))))
            claims = random_claims(chance, row, 30)
            free = [place for place in range(40) if place not in dict(claims).values()]
            certain = left_pairs(log, claims)
            self.assertEqual(certain, sorted(certain))
            for one, other in [tuple(chance.sample(range(40), 2)) for _ in range(8)]:
                left = self.can_stand_left(log, claims, free, one, other)
                right = self.can_stand_left(log, claims, free, other, one)
                expected = "never" if not left else "open" if right else "surely"
                self.assertEqual(left_word(log, claims, one, other), expected)
                self.assertEqual((one, other) in certain, expected == "surely")

    def can_stand_left(self, log, claims, free, one, other):
        """Whether some pair of places can be, by the first and the fourth fact."""
        known = dict(claims)
        for place in [known[one]] if one in known else free:
            for behind in [known[other]] if other in known else free:
                if place < behind:
                    more = {**known, one: place, other: behind}
                    if sorts_home(log, in_order(40, tuple(more.items()))):
                        return True
        return False

    def test_5_5_what_is_refused(self):
        for thing in WRONG + spoiled(((0, 1), (2, 0))):
            self.refuses(errors.NoClaims, left_word, W, thing, 0, 1)
            self.refuses(errors.NoClaims, left_pairs, W, thing)
        for wrong in [thing for thing in spoiled(0) if type(thing) is not int] + [-1, 3, 10 ** 39, True, False, "0"]:
            self.refuses(errors.NoVial, left_word, W, (), wrong, 0)
            self.refuses(errors.NoVial, left_word, W, (), 2, wrong)
        for vial in (0, 1, 2):
            self.refuses(errors.NoVial, left_word, W, (), vial, vial)

    def test_5_5_the_order_of_the_errors(self):
        self.refuses(errors.NoClaims, left_word, W, ((0, 3),), 3, 3)
        self.refuses(errors.Barred, left_word, W, BARRED, 3, 3)
        self.refuses(errors.Barred, left_word, W, BARRED, 1, 1)
        self.refuses(errors.Barred, left_pairs, W, BARRED)

    def test_0_4_each_list_is_new(self):
        first = left_pairs(W, ((2, 1),))
        self.assertIs(type(first), list)
        kept = list(first)
        first.append(None)
        self.assertEqual(left_pairs(W, ((2, 1),)), kept)


if __name__ == "__main__":
    unittest.main()
