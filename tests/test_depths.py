"""Points 6.1 and 6.2, and the sixth fact."""

import itertools
import random
import unittest

from tests.support import (
    Case, W, all_claims, all_parts, all_small_logs, big_log, big_logs, cheapest_rows, claims_of, coming, each_top, in_order,
    log_to, number_passing, perms, sorts_home, spoiled, true_claims, utmost_of,
)
from walkingcut import errors
from walkingcut.depths import (
    below_by, deep_arrangement, deep_claims, depth, depth_for_all, is_deep, loads, needed,
)
from walkingcut.logs import Log, backward, behind, mirrored

NO_NUMBERS = [thing for thing in spoiled(1) if type(thing) is not int] + [0, -1, -10 ** 39, True, False, "1", (1,)]
NO_CUTS = [thing for thing in spoiled(0) if type(thing) is not int] + [-1, 4, 10 ** 39, True, False]


def long_logs():
    """Logs with more spills than a constructed one may have."""
    one = behind(big_log(5, spills=100, widest=3), big_log(6, spills=60, widest=2))
    return [one, behind(one, W40), backward(one), mirrored(one), behind(behind(one, one), one)]


W40 = Log(40, ((0, 1, 0), (1, 2, 1), (3, 39, 2)))


def needed_by_words(log):
    top = utmost_of(log)
    found = []
    for begin in range(1, log.many):
        for end in range(1, log.many):
            left, right = top[:end], top[end:]
            if begin - 1 in left and begin not in left and left[-1] < begin and not right[0] < begin:
                found.append((begin, end))
    return found


def loads_by_words(log, begin, end):
    top = utmost_of(log)
    return number_passing(top, begin, end), sum(1 for vial in top[:end] if vial >= begin)


class NeededTest(Case):
    def test_6_1_needed_pairs(self):
        self.assertEqual(needed(W), [(2, 1)])
        for log in all_small_logs() + each_top(5) + big_logs() + long_logs():
            self.assertEqual(needed(log), needed_by_words(log))

    def test_6_1_racks_without_needed_pairs(self):
        for log in (Log(1, ()), Log(2, ((0, 1, 0),)), Log(40, ((0, 39, 0),)), Log(40, ((0, 39, 0), (3, 5, 1)))):
            self.assertEqual(needed(log), [])
        self.assertEqual(needed(Log(2, ())), [(1, 1)])
        self.assertEqual(needed(Log(40, ())), [(cut, cut) for cut in range(1, 40)])

    def test_6_1_loads(self):
        self.assertEqual(loads(W, 2, 1), (1, 0))
        self.assertEqual(loads(W, 0, 3), (0, 3))
        self.assertEqual(loads(W, 3, 0), (3, 0))
        for log in all_small_logs()[::2] + big_logs()[:4] + long_logs()[:1]:
            for begin in range(log.many + 1):
                for end in range(log.many + 1):
                    found = loads(log, begin, end)
                    self.assertEqual(found, loads_by_words(log, begin, end))
                    self.assertIs(type(found), tuple)

    def test_6_1_loads_refuses(self):
        for thing in NO_CUTS:
            self.refuses(errors.NoCut, loads, W, thing, 0)
            self.refuses(errors.NoCut, loads, W, 0, thing)
            self.refuses(errors.NoCut, loads, W, thing, thing)
        self.refuses(errors.NoCut, loads, Log(1, ()), 2, 0)
        self.refuses(errors.NoCut, loads, Log(40, ()), 0, 41)
        self.assertEqual(loads(Log(40, ()), 40, 40), (0, 0))

    def test_6_1_below_by_is_enough_to_be_below(self):
        for log in all_small_logs() + each_top(4) + each_top(5)[::7]:
            right = coming(log)
            for row in perms(log.many):
                self.judges(row in right, below_by, log, row)

    def test_6_1_below_by_in_large_racks(self):
        for seed, log in enumerate(big_logs() + long_logs()[:2]):
            chance = random.Random(seed)
            rows = [tuple(range(40)), utmost_of(log), tuple(chance.sample(range(40), 40)), tuple(range(40))[::-1]]
            for place in range(0, 39, 4):
                rows.append(rows[1][:place] + (rows[1][place + 1], rows[1][place]) + rows[1][place + 2:])
            for row in rows:
                self.judges(sorts_home(log, row), below_by, log, row)

    def test_6_1_below_by_refuses(self):
        for thing in spoiled((1, 2, 0)) + [(0, 1), (0, 1, 2, 3), (0, 1, 1), [0, 1, 2], (2, True, 0)]:
            self.refuses(errors.NoArrangement, below_by, W, thing)


def least_barred_lists(log, right):
    """All claims that cannot be true, while all of them but any one can."""
    return [
        set(claims) for claims in all_claims(log.many)
        if claims not in right and all(claims[:k] + claims[k + 1:] in right for k in range(len(claims)))
    ]


def each_k_can(right, k, claims):
    return all(part in right for part in all_parts(claims) if len(part) <= k)


class DepthTest(Case):
    def test_6_2_the_sixth_fact(self):
        for log in sum([each_top(many) for many in (1, 2, 3, 4)], []) + each_top(5)[::3]:
            right = true_claims(log)
            barred = least_barred_lists(log, right)
            # k is enough just if no list that is barred and has no barred part has more than k claims.
            self.assertEqual(depth(log), max([len(part) for part in barred] + [1]))
            # For all: each arrangement that cannot come has a barred part of at most k claims.
            lists = [set(claims_of(row)) for row in perms(log.many) if claims_of(row) not in right]
            least = [min(len(part) for part in barred if part <= claims) for claims in lists]
            self.assertEqual(depth_for_all(log), max(least + [1]))

    def test_6_2_depths_by_the_words(self):
        for log in all_small_logs()[::3]:
            right = true_claims(log)
            enough = [k for k in range(1, 6) if not any(
                each_k_can(right, k, claims) and claims not in right for claims in all_claims(log.many)
            )]
            self.assertEqual(depth(log), enough[0])
            enough = [k for k in range(1, 6) if not any(
                each_k_can(right, k, claims_of(row)) and claims_of(row) not in right for row in perms(log.many)
            )]
            self.assertEqual(depth_for_all(log), enough[0])

    def test_6_2_large_racks(self):
        for log in big_logs() + long_logs():
            both = [loads_by_words(log, begin, end) for begin, end in needed_by_words(log)]
            self.assertEqual(depth(log), 1 + max([max(pair) for pair in both] + [0]))
            self.assertEqual(depth_for_all(log), 1 + max([min(pair) for pair in both] + [0]))

    def test_6_2_depths_of_edges(self):
        for log in (Log(1, ()), Log(2, ()), Log(2, ((0, 1, 0),)), Log(40, ()), Log(40, ((0, 39, 4),))):
            self.assertEqual((depth(log), depth_for_all(log)), (1, 1))
        shifted = Log(40, tuple((place, place + 1, 0) for place in range(39)))
        self.assertEqual((depth(shifted), depth_for_all(shifted)), (2, 1))
        turned = log_to((3, 1, 2, 0))
        self.assertEqual((depth(turned), depth_for_all(turned)), (2, 2))


def fitting(log, k, claims):
    """Whether no walk is passed too often by some k of the claims: the fifth fact, for large racks."""
    table = cheapest_rows(log)
    for begin in range(log.many + 1):
        for end in range(log.many + 1):
            going = sum(1 for vial, place in claims if vial < begin and place >= end)
            back = sum(1 for vial, place in claims if vial >= begin and place < end)
            if max(min(k, going), begin - end + min(k, back)) > table[begin][end]:
                return False
    return True


class DeepTest(Case):
    def check_deep_claims(self, log, right, k):
        claims = deep_claims(log, k)
        if k >= depth(log):
            self.assertIsNone(claims)
            return
        self.assertIn(claims, all_claims(log.many))
        self.assertNotIn(claims, right)
        self.assertTrue(each_k_can(right, k, claims))
        self.judges(True, is_deep, log, k, claims)

    def check_deep_arrangement(self, log, right, k):
        row = deep_arrangement(log, k)
        if k >= depth_for_all(log):
            self.assertIsNone(row)
            return
        self.assertIn(row, perms(log.many))
        self.assertNotIn(claims_of(row), right)
        self.assertTrue(each_k_can(right, k, claims_of(row)))
        self.judges(True, is_deep, log, k, claims_of(row))

    def test_6_2_deep_claims_and_arrangements(self):
        for log in sum([each_top(many) for many in (1, 2, 3, 4)], []) + each_top(5)[::4] + all_small_logs()[::9]:
            right = true_claims(log)
            for k in (1, 2, 3, 4, 5, 6, 10 ** 39):
                self.check_deep_claims(log, right, k)
                self.check_deep_arrangement(log, right, k)

    def test_6_2_deep_claims_of_six_places(self):
        for row in ((3, 4, 5, 0, 1, 2), (4, 5, 2, 3, 0, 1), (5, 1, 2, 3, 4, 0), (2, 4, 0, 5, 1, 3), (5, 3, 4, 1, 2, 0)):
            log = log_to(row)
            right = true_claims(log)
            for k in range(1, 8):
                self.check_deep_claims(log, right, k)
                self.check_deep_arrangement(log, right, k)

    def test_6_2_large_racks_around_the_depths(self):
        for log in big_logs() + long_logs()[:2] + [log_to(tuple(range(5, 14)) + tuple(range(5)))]:
            most, for_all = depth(log), depth_for_all(log)
            for k in sorted({1, most - 1, for_all - 1} - {0}):
                claims = deep_claims(log, k)
                self.assertEqual(claims is None, k >= most)
                if claims is not None:
                    self.assertFalse(sorts_home(log, in_order(log.many, claims)))
                    self.assertTrue(fitting(log, k, claims))
                    self.judges(True, is_deep, log, k, claims)
                    self.judges(False, is_deep, log, most, claims)
                row = deep_arrangement(log, k)
                self.assertEqual(row is None, k >= for_all)
                if row is not None:
                    self.assertFalse(sorts_home(log, row))
                    self.assertTrue(fitting(log, k, claims_of(row)))
            for k in (most, most + 1, 40, 41, 10 ** 40 - 1):
                self.assertIsNone(deep_claims(log, k))
            for k in (for_all, for_all + 1, 40, 41, 10 ** 40 - 1):
                self.assertIsNone(deep_arrangement(log, k))

    def test_6_2_is_deep_of_all_claims(self):
        for log in each_top(3) + each_top(4)[::2] + all_small_logs()[::25]:
            right = true_claims(log)
            for claims in all_claims(log.many):
                for k in (1, 2, 3, 4, 5, 10 ** 39):
                    told = len(claims) > k and claims not in right and each_k_can(right, k, claims)
                    self.judges(told, is_deep, log, k, claims)

    def test_6_2_is_deep_with_more_claims_than_are_needed(self):
        # Not just such lists as deep_claims gives: claims that are barred twice over, and too deep only for a small k.
        log = Log(6, ((0, 1, 0), (1, 2, 0), (2, 3, 0), (3, 4, 0), (4, 5, 0)))
        right = true_claims(log)
        chance = random.Random(4)
        for claims in chance.sample(all_claims(6), 1500):
            for k in (1, 2, 3):
                told = len(claims) > k and claims not in right and each_k_can(right, k, claims)
                self.judges(told, is_deep, log, k, claims)

    def test_6_2_deep_claims_with_one_thing_changed(self):
        log = log_to((3, 4, 5, 0, 1, 2))
        right = true_claims(log)
        claims = deep_claims(log, 2)
        for at, (vial, place) in enumerate(claims):
            for other in range(-1, 8):
                for changed in ((other, place), (vial, other)):
                    thing = claims[:at] + (changed,) + claims[at + 1:]
                    told = thing in all_claims(6) and thing not in right and len(thing) > 2 and each_k_can(right, 2, thing)
                    self.judges(told, is_deep, log, 2, thing)
            self.judges(False, is_deep, log, 2, claims[:at] + claims[at + 1:])
        self.judges(False, is_deep, log, 2, claims[::-1])
        self.judges(False, is_deep, log, 2, claims + claims[:1])

    def test_6_2_is_deep_judges_things_of_all_kinds(self):
        claims = ((0, 1), (1, 2))
        self.judges(True, is_deep, W, 1, claims)
        self.judges(False, is_deep, W, 2, claims)
        self.judges(False, is_deep, W, 1, ())
        for thing in spoiled(claims) + [list(claims), ([0, 1], (1, 2)), ((False, 1), (1, 2)), ((0, True), (1, 2))]:
            self.judges(False, is_deep, W, 1, thing)

    def test_6_2_what_no_number_is(self):
        for k in NO_NUMBERS:
            self.refuses(errors.NoNumber, deep_claims, W, k)
            self.refuses(errors.NoNumber, deep_arrangement, W, k)
            self.refuses(errors.NoNumber, is_deep, W, k, ((0, 1), (1, 2)))
            self.refuses(errors.NoNumber, is_deep, W, k, None)

    def test_0_4_lists_are_new(self):
        found = needed(W)
        found.clear()
        self.assertEqual(needed(W), [(2, 1)])
        self.assertEqual(deep_claims(W, 1), deep_claims(Log(3, W.spills), 1))


class WideTest(Case):
    def test_6_2_a_cyclic_shift_of_a_large_rack(self):
        # Twenty vials pass twenty others: all of them must be held side by side.
        spills = tuple((first, first + 20, 0) for first in range(19, -1, -1))
        for log in (Log(40, spills), mirrored(Log(40, spills)), backward(Log(40, spills))):
            both = [loads_by_words(log, begin, end) for begin, end in needed_by_words(log)]
            self.assertEqual(depth(log), 1 + max(max(pair) for pair in both))
            for k in range(1, depth(log)):
                claims = deep_claims(log, k)
                self.assertGreater(len(claims), k)
                self.assertFalse(sorts_home(log, in_order(40, claims)))
                self.assertTrue(fitting(log, k, claims))
                for part in itertools.islice(itertools.combinations(claims, k), 20):
                    self.assertTrue(sorts_home(log, in_order(40, part)))


if __name__ == "__main__":
    unittest.main()
