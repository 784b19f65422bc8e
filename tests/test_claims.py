"""Points 5.1 and 5.2, the fourth and the fifth fact, and what 0.1 says of them."""

import random
import unittest

from tests.support import (
    Case, W, all_claims, all_small_logs, all_walks, big_log, big_logs, coming, cheapest_rows, ends_with, has_all,
    in_order, is_a_walk, left_steps, number_passed, perms, small_logs, some_small_logs, sorts_home, spoiled,
)
from walkingcut import errors
from walkingcut.claims import bar, can_be, history_of, is_bar, is_claims, least_arrangement, passed
from walkingcut.histories import end, led
from walkingcut.logs import Log, behind
from walkingcut.sorting import sorted_back

WRONG = [
    ((1, 0), (0, 1)), ((0, 1), (0, 1)), ((0, 1), (0, 2)), ((0, 1), (1, 1)), ((0, 0), (1, 1), (2, 1)), ((3, 0),),
    ((0, 3),), ((-1, 0),), ((0, -1),), [(0, 1)], ([0, 1],), ((0,),), ((0, 1, 2),), ((),), (0, 1), ((True, 0),),
    ((0, True),), ((False, 0),), ((0, 0), (True, 1)), ((0, 0), (1, True)), ("01",), "01", {0: 1}, {(0, 1): 0}, None,
    ((0, 1), None), ((0, 1), (1, 0), (2, 2), (3, 3)), [], {}, 0, 1, "", b"", range(0), ((0, 10 ** 39),),
]


def random_claims(chance, row, most):
    """Some true claims of an arrangement."""
    return tuple(sorted((row[place], place) for place in chance.sample(range(len(row)), chance.randrange(most + 1))))


class ClaimsTest(Case):
    def test_5_1_is_claims(self):
        for many in (1, 2, 3, 4):
            for claims in all_claims(many):
                self.judges(True, is_claims, Log(many, ()), claims)
        self.judges(True, is_claims, Log(40, ()), tuple((vial, 39 - vial) for vial in range(40)))
        self.judges(False, is_claims, Log(40, ()), tuple((vial, 39 - vial) for vial in range(40)) + ((40, 40),))
        self.judges(False, is_claims, Log(1, ()), ((0, 0), (0, 0)))
        self.judges(False, is_claims, Log(1, ()), ((0, 1),))
        self.judges(False, is_claims, Log(1, ()), ((1, 0),))

    def test_5_1_what_no_claims_are(self):
        for thing in WRONG:
            self.judges(False, is_claims, W, thing)
            for function in (least_arrangement, can_be, history_of, bar):
                self.refuses(errors.NoClaims, function, W, thing)

    def test_5_1_things_of_all_kinds(self):
        for thing in spoiled(((0, 1), (2, 0))):
            self.judges(False, is_claims, W, thing)
            self.refuses(errors.NoClaims, least_arrangement, W, thing)
            self.refuses(errors.NoClaims, can_be, W, thing)
            self.refuses(errors.NoClaims, history_of, W, thing)
            self.refuses(errors.NoClaims, bar, W, thing)
            self.refuses(errors.NoClaims, is_bar, W, thing, (0, 0, 0, 0))
            self.refuses(errors.NoClaims, passed, W, thing, 0, 0)

    def test_5_1_least_arrangement(self):
        self.assertEqual(least_arrangement(W, ()), (0, 1, 2))
        self.assertEqual(least_arrangement(W, ((2, 0),)), (2, 0, 1))
        self.assertEqual(least_arrangement(Log(5, ()), ((1, 4), (3, 0))), (3, 0, 2, 4, 1))
        self.assertEqual(least_arrangement(Log(1, ()), ((0, 0),)), (0,))
        turned = tuple((vial, 39 - vial) for vial in range(40))
        self.assertEqual(least_arrangement(Log(40, ()), turned), tuple(range(40))[::-1])
        for many in (1, 2, 3, 4):
            for claims in all_claims(many):
                self.assertEqual(least_arrangement(Log(many, ()), claims), in_order(many, claims))

    def test_5_1_what_can_be_true(self):
        for log in all_small_logs():
            right = coming(log)
            for claims in all_claims(log.many):
                self.judges(any(has_all(row, claims) for row in right), can_be, log, claims)

    def test_5_1_the_fourth_fact(self):
        for log in small_logs(3, 3) + small_logs(4, 2):
            right = coming(log)
            for claims in all_claims(log.many):
                known = in_order(log.many, claims) in right
                self.assertEqual(any(has_all(row, claims) for row in right), known)

    def test_5_1_a_history_for_just_what_can_be_true(self):
        for log in all_small_logs():
            right = coming(log)
            for claims in all_claims(log.many):
                history = history_of(log, claims)
                if any(has_all(row, claims) for row in right):
                    self.assertTrue(has_all(ends_with(log, history), claims))
                else:
                    self.assertIsNone(history)

    def test_5_1_no_claims_can_always_be_true(self):
        for log in all_small_logs() + big_logs():
            self.judges(True, can_be, log, ())
            self.assertIsNone(bar(log, ()))
            self.assertIsNotNone(history_of(log, ()))

    def test_0_1_sorting_the_least_arrangement_back_and_bars_tell_alike(self):
        for log in all_small_logs():
            home = tuple(range(log.many))
            for claims in all_claims(log.many):
                right = can_be(log, claims)
                self.assertEqual(sorted_back(log, least_arrangement(log, claims)) == home, right)
                self.assertEqual(bar(log, claims) is None, right)
                self.assertEqual(history_of(log, claims) is not None, right)


class BarTest(Case):
    def test_5_2_passed(self):
        claims = ((0, 3), (1, 0), (3, 1))
        log = Log(4, ())
        self.assertEqual(passed(log, claims, 1, 3), 1)
        self.assertEqual(passed(log, claims, 0, 0), 0)
        self.assertEqual(passed(log, claims, 3, 2), 2)
        self.assertEqual(passed(log, claims, 1, 2), 1)
        self.assertEqual(passed(log, claims, 0, 4), 0)
        self.assertEqual(passed(log, claims, 4, 0), 4)
        self.assertEqual(passed(log, (), 4, 0), 4)
        self.assertEqual(passed(log, (), 0, 4), 0)
        for many in (1, 2, 3, 4):
            for claims in all_claims(many):
                for begin in range(many + 1):
                    for cut in range(many + 1):
                        self.assertEqual(passed(Log(many, ()), claims, begin, cut), number_passed(claims, begin, cut))

    def test_5_2_passed_by_all_vials(self):
        turned = tuple((vial, 39 - vial) for vial in range(40))
        log = Log(40, ())
        self.assertEqual(passed(log, turned, 20, 20), 20)
        self.assertEqual(passed(log, turned, 40, 0), 40)
        self.assertEqual(passed(log, turned, 0, 40), 0)
        self.assertEqual(passed(log, turned, 30, 20), 20)

    def test_5_2_passed_refuses(self):
        for thing in WRONG:
            self.refuses(errors.NoClaims, passed, W, thing, 0, 0)
            self.refuses(errors.NoClaims, passed, W, thing, None, 4)
        for cut in [thing for thing in spoiled(0) if type(thing) is not int] + [-1, 4, 10 ** 39, True, False]:
            self.refuses(errors.NoCut, passed, W, ((0, 1),), cut, 0)
            self.refuses(errors.NoCut, passed, W, ((0, 1),), 0, cut)

    def test_5_2_the_fifth_fact_and_bars_that_fit(self):
        for log in all_small_logs():
            table = cheapest_rows(log)
            right = coming(log)
            cuts = range(log.many + 1)
            for claims in all_claims(log.many):
                known = any(has_all(row, claims) for row in right)
                barred = any(number_passed(claims, b, e) > table[b][e] for b in cuts for e in cuts)
                self.assertEqual(known, not barred)
                found = bar(log, claims)
                if known:
                    self.assertIsNone(found)
                else:
                    self.check_bar(log, claims, found)

    def check_bar(self, log, claims, found):
        self.assertTrue(is_a_walk(log, found))
        self.assertGreater(number_passed(claims, found[0], found[-1]), left_steps(found))
        self.judges(True, is_bar, log, claims, found)

    def test_5_2_is_bar_of_all_walks(self):
        for log in small_logs(1, 0) + small_logs(2, 2) + small_logs(3, 2)[::2] + small_logs(4, 1)[::2]:
            walks = all_walks(log)
            for claims in all_claims(log.many):
                for cuts in walks:
                    right = number_passed(claims, cuts[0], cuts[-1]) > left_steps(cuts)
                    self.judges(right, is_bar, log, claims, cuts)

    def test_5_2_is_bar_judges_things_of_all_kinds(self):
        claims = ((0, 1), (1, 2))
        self.judges(True, is_bar, W, claims, (2, 2, 1, 1))
        for thing in spoiled((2, 2, 1, 1)) + [(), (2, 1), (2, 2, 1), (2, 2, 1, 1, 1), [2, 2, 1, 1], (2, 2, True, 1)]:
            self.judges(False, is_bar, W, claims, thing)
        for thing in ((2, 1, 1, 1), (2, 2, 2, 1), (2, 2, 0, 1), (-1, 2, 1, 1), (2, 2, 1, 4)):
            self.judges(False, is_bar, W, claims, thing)
        for wrong in WRONG:
            self.refuses(errors.NoClaims, is_bar, W, wrong, (2, 2, 1, 1))
            self.refuses(errors.NoClaims, is_bar, W, wrong, None)

    def test_5_2_a_dearer_walk_is_a_bar_only_if_passed_more_often(self):
        log = Log(4, ())
        self.judges(True, is_bar, log, ((0, 3),), (1, 2))
        self.judges(False, is_bar, log, ((0, 3),), (2, 1))
        self.judges(True, is_bar, log, ((0, 3), (1, 2)), (2, 1))
        spilled = Log(4, ((0, 1, 0),))
        self.judges(True, is_bar, spilled, ((0, 3), (1, 2)), (2, 2, 2))
        self.judges(True, is_bar, spilled, ((0, 3), (1, 2)), (2, 2, 1))
        self.judges(False, is_bar, spilled, ((0, 3), (1, 2)), (2, 0, 2))

    def test_5_2_large_racks(self):
        for seed, log in enumerate(big_logs() + [behind(big_log(1, spills=60, widest=2), big_log(2, spills=60, widest=2))]):
            chance = random.Random(seed)
            row = end(log, led(log, lambda number, vials: tuple(chance.sample(vials, len(vials)))))
            for most in (0, 1, 3, 10, 40, 40):
                claims = random_claims(chance, row, most)
                self.judges(True, can_be, log, claims)
                self.assertIsNone(bar(log, claims))
                self.assertTrue(has_all(ends_with(log, history_of(log, claims)), claims))
                other = random_claims(chance, chance.sample(row, 40), most)
                right = sorts_home(log, in_order(40, other))
                self.judges(right, can_be, log, other)
                if right:
                    self.assertIsNone(bar(log, other))
                    self.assertTrue(has_all(ends_with(log, history_of(log, other)), other))
                else:
                    self.assertIsNone(history_of(log, other))
                    self.check_bar(log, other, bar(log, other))

    def test_5_2_claims_of_all_vials(self):
        for log in some_small_logs():
            right = coming(log)
            for row in perms(log.many):
                claims = tuple(sorted((vial, place) for place, vial in enumerate(row)))
                self.judges(row in right, can_be, log, claims)
                self.assertEqual(least_arrangement(log, claims), row)

    def test_0_4_equal_calls_give_equal_answers(self):
        again = Log(3, ((0, 1, 0), (1, 2, 1)))
        self.assertEqual(bar(W, ((0, 1), (1, 2))), bar(again, ((0, 1), (1, 2))))
        self.assertEqual(history_of(W, ((2, 1),)), history_of(again, ((2, 1),)))


if __name__ == "__main__":
    unittest.main()
