"""Points 7.1 and 7.3."""

import itertools
import random
import unittest

from tests.support import (
    Case, W, all_histories, all_small_logs, big_log, big_logs, coming, log_to, perms, small_logs, some_small_logs,
    sorts_home, spoiled, utmost_of,
)
from walkingcut import errors
from walkingcut.comparing import alike, apart, bare, needless, never_more, parting, same_alone, stretch
from walkingcut.logs import Log, backward, behind, mirrored

NO_VIALS = [thing for thing in spoiled(0) if type(thing) is not int] + [-1, 3, 10 ** 39, True, False, "0"]


def long_log(seed, times=3):
    one = big_log(seed, spills=70, widest=3)
    log = one
    for _ in range(times - 1):
        log = behind(log, one)
    return log


def without_spill(log, number):
    """The log without a spill, of however many."""
    found = Log(log.many, ())
    for at in range(0, len(log.spills), 50):
        kept = [spill for place, spill in enumerate(log.spills[at:at + 50], at) if place != number]
        found = behind(found, Log(log.many, tuple(kept)))
    return found


class AlikeTest(Case):
    def check_both(self, one, other, one_rows, other_rows):
        self.judges(one_rows == other_rows, alike, one, other)
        self.judges(one_rows <= other_rows, never_more, one, other)
        row = parting(one, other)
        if one_rows <= other_rows:
            self.assertIsNone(row)
        else:
            self.assertIn(row, one_rows - other_rows)
            self.assertIs(type(row), tuple)

    def test_7_1_small_racks(self):
        for logs in (small_logs(1, 2), small_logs(2, 3), small_logs(3, 3), small_logs(4, 2), small_logs(4, 3)[50::15]):
            known = [(log, frozenset(coming(log))) for log in logs]
            for one, one_rows in known:
                for other, other_rows in known:
                    self.check_both(one, other, one_rows, other_rows)

    def test_7_1_hands_do_not_matter_and_order_does(self):
        self.judges(True, alike, W, Log(3, ((0, 1, 7), (1, 2, 7))))
        self.judges(False, alike, W, backward(W))
        self.judges(False, never_more, W, backward(W))
        self.judges(True, alike, Log(3, ((0, 1, 0), (1, 2, 0), (0, 1, 0))), Log(3, ((0, 2, 1),)))
        self.judges(True, alike, Log(1, ()), Log(1, ()))
        self.assertIn(parting(W, Log(3, ())), [(0, 2, 1), (1, 0, 2), (1, 2, 0)])

    def test_7_1_large_racks(self):
        logs = big_logs() + [long_log(2), backward(long_log(2)), mirrored(long_log(3))]
        for one, other in itertools.product(logs, repeat=2):
            self.judges(utmost_of(one) == utmost_of(other), alike, one, other)
            told = sorts_home(other, utmost_of(one))
            self.judges(told, never_more, one, other)
            row = parting(one, other)
            self.assertEqual(row is None, told)
            if row is not None:
                self.assertTrue(sorts_home(one, row))
                self.assertFalse(sorts_home(other, row))

    def test_7_1_a_log_with_more_spills_is_never_less(self):
        for log in big_logs():
            more = behind(log, Log(40, ((3, 4, 0),)))
            self.judges(True, never_more, log, more)
            self.assertEqual(never_more(more, log), alike(more, log))

    def test_7_1_and_7_3_unlike_racks(self):
        for one, other in ((W, Log(2, ())), (Log(1, ()), Log(40, ())), (Log(40, ((0, 39, 0),)), Log(39, ((0, 38, 0),)))):
            for function in (alike, never_more, parting, same_alone):
                self.refuses(errors.OtherRack, function, one, other)
                self.refuses(errors.OtherRack, function, other, one)


def needless_by_words(log):
    top = utmost_of(log)
    return tuple(number for number in range(len(log.spills)) if utmost_of(without_spill(log, number)) == top)


class NeedlessTest(Case):
    def test_7_1_needless_of_small_racks_gone_through(self):
        for log in some_small_logs():
            rows = coming(log)
            spills = log.spills
            told = [k for k in range(len(spills)) if coming(Log(log.many, spills[:k] + spills[k + 1:])) == rows]
            self.assertEqual(needless(log), tuple(told))

    def test_7_1_bare_of_small_racks_gone_through(self):
        for log in some_small_logs() + small_logs(3, 4)[::7]:
            rows = coming(log)
            spills = log.spills
            while True:
                found = [k for k in range(len(spills)) if coming(Log(log.many, spills[:k] + spills[k + 1:])) == rows]
                if not found:
                    break
                spills = spills[:found[0]] + spills[found[0] + 1:]
            self.assertEqual(bare(log), Log(log.many, spills))

    def test_7_1_the_example_and_spills_told_twice(self):
        log = Log(3, ((0, 1, 0), (0, 2, 1), (1, 2, 0)))
        self.assertEqual(needless(log), (0, 2))
        self.assertEqual(bare(log), Log(3, ((0, 2, 1),)))
        twice = Log(4, ((0, 2, 3), (0, 2, 5)))
        self.assertEqual(needless(twice), (0, 1))
        self.assertEqual(bare(twice), Log(4, ((0, 2, 5),)))
        doubled = Log(3, tuple(spill for spill in W.spills for _ in range(2)))
        self.assertEqual(needless(doubled), (0, 1, 2, 3))
        self.assertEqual(bare(doubled), W)
        wide = Log(40, ((0, 39, 1),) * 100)
        self.assertEqual(needless(wide), tuple(range(100)))
        self.assertEqual(bare(wide), Log(40, ((0, 39, 1),)))

    def test_7_1_a_spill_that_is_needless_only_by_itself(self):
        log = Log(3, ((0, 1, 0), (1, 2, 0), (0, 1, 0), (1, 2, 0)))
        self.assertEqual(needless(log), (0, 3))
        self.assertEqual(bare(log), Log(3, ((1, 2, 0), (0, 1, 0), (1, 2, 0))))

    def test_7_1_nothing_needless(self):
        for log in (Log(1, ()), Log(2, ()), Log(40, ()), W, Log(40, ((0, 39, 0),)), log_to((5, 4, 3, 2, 1, 0))):
            self.assertEqual(needless(log), ())
            self.assertEqual(bare(log), log)

    def test_7_1_large_racks(self):
        for log in big_logs()[:4] + [big_log(8, spills=100, widest=2), long_log(4, 2)]:
            self.assertEqual(needless(log), needless_by_words(log))
            left = log
            while needless_by_words(left):
                left = without_spill(left, needless_by_words(left)[0])
            self.assertEqual(bare(log), left)
            self.assertEqual(utmost_of(bare(log)), utmost_of(log))

    def test_7_1_many_needless_spills_of_long_logs(self):
        log = long_log(5, 20)
        self.assertEqual(len(log.spills), 1400)
        found = needless(log)
        chance = random.Random(5)
        for number in chance.sample(range(1400), 40):
            self.assertEqual(number in found, utmost_of(without_spill(log, number)) == utmost_of(log))
        left = bare(log)
        self.assertGreater(len(left.spills), 100)
        self.assertEqual(utmost_of(left), utmost_of(log))
        self.assertEqual(needless(left), ())
        spills = iter(log.spills)
        self.assertTrue(all(spill in spills for spill in left.spills))

    def test_0_4_a_log_that_is_passed_stays(self):
        log = Log(3, ((0, 1, 0), (0, 2, 1), (1, 2, 0)))
        bare(log)
        needless(log)
        self.assertEqual(log.spills, ((0, 1, 0), (0, 2, 1), (1, 2, 0)))


def stretch_by_steps(log, vial):
    places = {vial}
    for first, last, _ in log.spills:
        if places & set(range(first, last + 1)):
            places |= set(range(first, last + 1))
    return min(places), max(places)


class StretchTest(Case):
    def test_7_3_stretch_of_small_racks_gone_through(self):
        for log in all_small_logs():
            rows = coming(log)
            for vial in range(log.many):
                places = {row.index(vial) for row in rows}
                self.assertEqual(stretch(log, vial), (min(places), max(places)))
                self.assertEqual(places, set(range(min(places), max(places) + 1)))

    def test_7_3_stretch_of_large_racks(self):
        self.assertEqual(stretch(W, 2), (1, 2))
        self.assertEqual(stretch(Log(1, ()), 0), (0, 0))
        self.assertEqual(stretch(Log(40, ((0, 39, 0),)), 17), (0, 39))
        for log in big_logs() + [long_log(7)]:
            for vial in range(40):
                self.assertEqual(stretch(log, vial), stretch_by_steps(log, vial))

    def test_7_3_stretch_refuses(self):
        for vial in NO_VIALS:
            self.refuses(errors.NoVial, stretch, W, vial)
        self.refuses(errors.NoVial, stretch, Log(1, ()), 1)
        self.refuses(errors.NoVial, stretch, Log(40, ()), 40)

    def test_7_3_same_alone(self):
        for logs in (small_logs(2, 3), small_logs(3, 3)[::2], small_logs(4, 2)[::2]):
            rows = [(log, coming(log)) for log in logs]
            known = [
                (log, [{row.index(vial) for row in found} for vial in range(log.many)]) for log, found in rows
            ]
            for one, one_places in known:
                for other, other_places in known:
                    self.judges(one_places == other_places, same_alone, one, other)

    def test_7_3_the_same_alone_and_not_alike(self):
        one, other = Log(4, ((2, 3, 5), (0, 2, 10), (2, 3, 5))), Log(4, ((0, 3, 0),))
        self.judges(True, same_alone, one, other)
        self.judges(False, alike, one, other)
        self.judges(False, same_alone, Log(40, ()), Log(40, ((38, 39, 0),)))
        self.judges(True, same_alone, Log(40, ((38, 39, 1),)), Log(40, ((38, 39, 0), (38, 39, 0))))
        self.judges(True, same_alone, long_log(2, 3), long_log(2, 3))

    def test_7_3_apart_of_small_racks_gone_through(self):
        for log in all_small_logs():
            rows = {row for _, history in all_histories(log) for row in history} if len(log.spills) < 3 else coming(log)
            moves = {tuple(sorted((place, vial))) for row in rows for place, vial in enumerate(row)}
            borders = [cut for cut in range(1, log.many) if not any(low < cut <= high for low, high in moves)]
            sides = [0, *borders, log.many]
            self.assertEqual(apart(log), [(low, high - 1) for low, high in zip(sides, sides[1:])])

    def test_7_3_apart_of_large_racks(self):
        self.assertEqual(apart(Log(1, ())), [(0, 0)])
        self.assertEqual(apart(W), [(0, 2)])
        self.assertEqual(apart(Log(40, ())), [(place, place) for place in range(40)])
        self.assertEqual(apart(Log(40, ((0, 39, 0),))), [(0, 39)])
        log = Log(8, ((5, 6, 0), (1, 2, 0), (2, 3, 1), (6, 7, 1)))
        self.assertEqual(apart(log), [(0, 0), (1, 3), (4, 4), (5, 7)])
        for log in big_logs() + [long_log(9)]:
            sides = [0] + [cut for cut in range(1, 40) if all(
                stretch_by_steps(log, vial)[1] < cut or stretch_by_steps(log, vial)[0] >= cut for vial in range(40)
            )] + [40]
            self.assertEqual(apart(log), [(low, high - 1) for low, high in zip(sides, sides[1:])])

    def test_0_4_the_list_is_new(self):
        found = apart(W)
        found.append(0)
        self.assertEqual(apart(W), [(0, 2)])

    def test_7_1_all_arrangements_that_can_come_are_parted(self):
        for row in perms(4):
            log = log_to(row)
            for other in small_logs(4, 1):
                self.judges(coming(log) <= coming(other), never_more, log, other)


if __name__ == "__main__":
    unittest.main()
