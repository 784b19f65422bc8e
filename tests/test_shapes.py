"""Point 6.3 and the seventh fact."""

import itertools
import random
import unittest

from tests.support import (
    Case, all_parts, all_small_logs, big_log, big_logs, claims_of, coming, each_top, log_to, perms, spoiled, true_claims,
    utmost_of,
)
from walkingcut import errors
from walkingcut.depths import depth_for_all
from walkingcut.logs import Log, backward, behind, mirrored
from walkingcut.shapes import shape_in, stands_at

SHAPES = [(3, 1, 2, 0), (2, 4, 0, 3, 1), (3, 1, 4, 0, 2), (2, 4, 0, 5, 1, 3)]


def stands(row, number, places):
    vials = [row[place] for place in places]
    return tuple(sorted(vials).index(vial) for vial in vials) == SHAPES[number]


def least_shape(row):
    for number, shape in enumerate(SHAPES):
        for places in itertools.combinations(range(len(row)), len(shape)):
            if stands(row, number, places):
                return number, places
    return None


def one_is_enough_for_all(log):
    """By the words: whether each arrangement, each claim of which can be true, can come."""
    right = coming(log)
    single = {(vial, place) for row in right for place, vial in enumerate(row)}
    return all(row in right for row in perms(log.many) if all(claim in single for claim in claims_of(row)))


class ShapeTest(Case):
    def test_6_3_each_shape_stands_in_itself(self):
        for number, shape in enumerate(SHAPES):
            places = tuple(range(len(shape)))
            self.assertEqual(shape_in(log_to(shape)), (number, places))
            self.judges(True, stands_at, Log(len(shape), ()), shape, number, places)

    def test_6_3_shape_in_small_racks(self):
        for log in sum([each_top(many) for many in (1, 2, 3, 4, 5)], []) + each_top(6)[::5] + all_small_logs()[::9]:
            self.assertEqual(shape_in(log), least_shape(utmost_of(log)))

    def test_6_3_the_least_number_goes_before_the_least_places(self):
        row = (2, 4, 0, 3, 1, 8, 6, 7, 5)
        self.assertEqual(shape_in(log_to(row)), (0, (5, 6, 7, 8)))
        row = (3, 1, 4, 0, 2, 7, 9, 5, 8, 6)
        self.assertEqual(shape_in(log_to(row)), (1, (5, 6, 7, 8, 9)))
        row = (3, 1, 2, 0, 7, 5, 6, 4)
        self.assertEqual(shape_in(log_to(row)), (0, (0, 1, 2, 3)))

    def test_6_3_large_racks(self):
        logs = big_logs() + [big_log(seed, 12, 30, 4) for seed in range(6)]
        for log in logs + [backward(log) for log in logs] + [mirrored(logs[1]), behind(logs[1], logs[2])]:
            found = shape_in(log)
            top = utmost_of(log)
            for number, shape in enumerate(SHAPES):
                if len(shape) == 4 or log.many < 40:
                    standing = [
                        places for places in itertools.combinations(range(log.many), len(shape)) if stands(top, number, places)
                    ]
                    if standing:
                        self.assertEqual(found, (number, min(standing)))
                        break
            else:
                self.assertNotEqual((found or (None,))[0], 0)
                if found is not None:
                    self.assertTrue(stands(top, *found))

    def test_6_3_racks_without_shapes(self):
        for log in (Log(1, ()), Log(2, ((0, 1, 0),)), Log(3, ((0, 2, 0),)), Log(40, ()), Log(40, ((0, 39, 0),))):
            self.assertIsNone(shape_in(log))
        blocks = tuple(8 * block + step for block in (2, 3, 0, 4, 1) for step in range(8))
        self.assertIsNone(shape_in(log_to(blocks)))

    def test_6_3_one_shape_far_behind(self):
        inner = (37, 39, 34, 38, 35)
        row = tuple(range(34)) + (36,) + inner
        self.assertEqual(shape_in(log_to(row)), least_in_last(row, 6))

    def test_6_3_the_seventh_fact(self):
        for log in sum([each_top(many) for many in (1, 2, 3, 4, 5)], []):
            told = one_is_enough_for_all(log)
            self.assertEqual(least_shape(utmost_of(log)) is None, told)
            self.assertEqual(shape_in(log) is None, told)
        for row in (SHAPES[3], (2, 4, 0, 5, 3, 1), (5, 4, 3, 2, 1, 0), (1, 3, 0, 5, 2, 4), (2, 4, 0, 5, 1, 3)[::-1]):
            log = log_to(row)
            self.assertEqual(shape_in(log) is None, one_is_enough_for_all(log))

    def test_6_3_one_is_enough_for_all_by_lists_of_claims(self):
        for log in each_top(4):
            right = true_claims(log)
            lists = [claims_of(row) for row in perms(4)]
            told = all(
                claims in right for claims in lists if all(part in right for part in all_parts(claims) if len(part) <= 1)
            )
            self.assertEqual(shape_in(log) is None, told)

    def test_6_3_shapes_and_depths_of_large_racks(self):
        for log in big_logs() + [big_log(seed, 20, 40, 3) for seed in range(20)]:
            self.assertEqual(shape_in(log) is None, depth_for_all(log) == 1)


def least_in_last(row, count):
    """The least shape of an arrangement in which only the last places are not home."""
    start = len(row) - count
    found = least_shape([vial - start for vial in row[start:]])
    return found and (found[0], tuple(place + start for place in found[1]))


class StandsTest(Case):
    def test_6_3_stands_at_all_places(self):
        chance = random.Random(2)
        for row in [*SHAPES, *perms(5)[::11], *[tuple(chance.sample(range(7), 7)) for _ in range(8)]]:
            log = Log(len(row), ())
            for number in range(4):
                for count in range(len(row) + 1):
                    for places in itertools.combinations(range(len(row)), count):
                        self.judges(stands(row, number, places), stands_at, log, row, number, places)

    def test_6_3_stands_at_places_of_a_large_rack(self):
        row = tuple(range(40))[::-1]
        turned = row[:10] + (26, 28, 27, 29)[::-1] + row[14:]
        self.assertEqual(sorted(turned), list(range(40)))
        self.judges(True, stands_at, Log(40, ()), turned, 0, (9, 11, 12, 39))
        self.judges(False, stands_at, Log(40, ()), row, 0, (9, 11, 12, 39))

    def test_6_3_what_no_ascending_tuple_of_places_is(self):
        row = (2, 4, 0, 5, 1, 3)
        log = Log(6, ())
        right = (0, 1, 2, 3, 4, 5)
        self.judges(True, stands_at, log, row, 3, right)
        for thing in spoiled(right) + [right[::-1], (0, 1, 2, 3, 5, 4), (0, 0, 1, 2, 3, 4), right + (6,), right[1:], ()]:
            self.judges(False, stands_at, log, row, 3, thing)
        for thing in (list(right), (False, 1, 2, 3, 4, 5), (0, True, 2, 3, 4, 5), range(6), (1, 2, 3, 4, 5, 6), "012345"):
            self.judges(False, stands_at, log, row, 3, thing)
        for places in itertools.permutations(range(4)):
            self.judges(places == (0, 1, 2, 3), stands_at, Log(4, ()), (3, 1, 2, 0), 0, places)
        self.judges(False, stands_at, Log(4, ()), (3, 1, 2, 0), 0, (-4, -3, -2, -1))
        self.judges(False, stands_at, Log(4, ()), (3, 1, 2, 0), 0, (-1, 1, 2, 3))

    def test_6_3_stands_at_refuses(self):
        row = (3, 1, 2, 0)
        log = Log(4, ())
        for thing in spoiled(row) + [(0, 1, 2), (0, 1, 2, 3, 4), list(row), (3, True, 2, 0)]:
            self.refuses(errors.NoArrangement, stands_at, log, thing, 0, (0, 1, 2, 3))
            self.refuses(errors.NoArrangement, stands_at, log, thing, 4, None)
        for number in [thing for thing in spoiled(0) if type(thing) is not int] + [-1, 4, 10 ** 39, True, False]:
            self.refuses(errors.NoNumber, stands_at, log, row, number, (0, 1, 2, 3))
            self.refuses(errors.NoNumber, stands_at, log, row, number, None)


if __name__ == "__main__":
    unittest.main()
