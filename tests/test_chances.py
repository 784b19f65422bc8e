"""Point 12.2."""

import itertools
import math
import random
import unittest
from fractions import Fraction

from tests.support import Case, W, all_claims, all_small_logs, big_log, big_logs, has_all, perms, small_logs, spoiled
from tests.test_claims import WRONG as WRONG_CLAIMS
from walkingcut import errors
from walkingcut.chances import chance, chances, likeliest, many_ways
from walkingcut.logs import Log, behind

WRONG_ROWS = [
    (0, 1), (0, 1, 2, 3), (0, 1, 1), (1, 2, 3), (-1, 0, 1), (0, True, 2), (False, 1, 2), [0, 1, 2], "012", None, 3, (),
]


def ways_of(log):
    """For each arrangement the number of the histories that end with it: all orders at each spill are gone through."""
    ways = {tuple(range(log.many)): 1}
    for first, last, _ in log.spills:
        behind_it = {}
        for row in ways:
            for mixed in itertools.permutations(row[first:last + 1]):
                further = row[:first] + mixed + row[last + 1:]
                behind_it[further] = behind_it.get(further, 0) + ways[row]
        ways = behind_it
    return ways


def pair_of(fraction):
    return fraction.numerator, fraction.denominator


def places_told(log, vials):
    """For each way in which some vials can stand at the end how likely it is, also in larger racks."""
    told = {tuple(vials): Fraction(1)}
    for first, last, _ in log.spills:
        stretch = range(first, last + 1)
        found = {}
        for places, likely in told.items():
            inside = [at for at, place in enumerate(places) if place in stretch]
            orders = list(itertools.permutations(stretch, len(inside)))
            for order in orders:
                further = list(places)
                for at, place in zip(inside, order):
                    further[at] = place
                found[tuple(further)] = found.get(tuple(further), 0) + likely / len(orders)
        told = found
    return told


class WaysTest(Case):
    def logs(self):
        return all_small_logs()[::2] + small_logs(4, 3)[3::50] + [big_log(seed, 5, 5, 4) for seed in range(4)]

    def test_12_2_many_ways_gone_through(self):
        for log in self.logs() + [big_log(1, 6, 4, 4)]:
            ways = ways_of(log)
            for row in perms(log.many):
                self.assertEqual(many_ways(log, row), ways.get(row, 0))

    def test_12_2_likeliest_gone_through(self):
        for log in self.logs() + [big_log(seed, 6, 4, 4) for seed in range(4)]:
            ways = ways_of(log)
            most = max(ways.values())
            self.assertEqual(likeliest(log), (min(row for row in ways if ways[row] == most), most))

    def test_12_2_told_ones(self):
        self.assertEqual(many_ways(W, (0, 1, 2)), 1)
        self.assertEqual(many_ways(W, (2, 1, 0)), 0)
        self.assertEqual(likeliest(W), ((0, 1, 2), 1))
        self.assertEqual(likeliest(Log(1, ())), ((0,), 1))
        self.assertEqual(many_ways(Log(2, ((0, 1, 0),) * 5), (1, 0)), 16)
        self.assertEqual(likeliest(Log(3, ((0, 1, 0), (1, 2, 0), (0, 1, 0)))), ((0, 1, 2), 2))
        self.assertEqual(likeliest(Log(3, ((1, 2, 0), (0, 1, 0), (1, 2, 0)))), ((0, 1, 2), 2))

    def test_12_2_long_logs(self):
        log = Log(6, ((0, 5, 0),) * 100)
        self.assertEqual(many_ways(log, tuple(range(6))), 720 ** 99)
        self.assertEqual(likeliest(behind(log, log)), (tuple(range(6)), 720 ** 199))
        self.assertEqual(sum(many_ways(big_log(3, 4, 100, 3), row) for row in perms(4)), math.prod(
            math.factorial(last - first + 1) for first, last, _ in big_log(3, 4, 100, 3).spills
        ))

    def test_12_2_six_places_and_seven(self):
        self.assertEqual(many_ways(Log(6, ()), tuple(range(6))), 1)
        for many in (7, 8, 40):
            log, home = Log(many, ()), tuple(range(many))
            self.refuses(errors.TooMany, many_ways, log, home, most=6)
            self.refuses(errors.TooMany, likeliest, log, most=6)
            self.refuses(errors.NoArrangement, many_ways, log, home[1:])
            self.refuses(errors.NoArrangement, many_ways, log, None)

    def test_12_2_refuses(self):
        for thing in WRONG_ROWS + spoiled((0, 1, 2)):
            if repr(thing) != "(0, 1, 2)":
                self.refuses(errors.NoArrangement, many_ways, W, thing)


class ChanceTest(Case):
    def check_fraction(self, found):
        self.assertIs(type(found), tuple)
        top, bottom = found
        self.assertEqual((type(top), type(bottom)), (int, int))
        self.assertTrue(0 <= top <= bottom and bottom >= 1 and math.gcd(top, bottom) == 1)

    def test_12_2_chances_of_small_racks_gone_through(self):
        for log in all_small_logs()[::2] + small_logs(4, 3)[3::50]:
            ways = ways_of(log)
            whole = sum(ways.values())
            for claims in all_claims(log.many):
                if len(claims) <= 3:
                    told = Fraction(sum(ways[row] for row in ways if has_all(row, claims)), whole)
                    self.assertEqual(chance(log, claims), pair_of(told))
                    self.check_fraction(chance(log, claims))
            for vial in range(log.many):
                numbers = [sum(ways[row] for row in ways if row[place] == vial) for place in range(log.many)]
                self.assertEqual(chances(log, vial), tuple(pair_of(Fraction(number, whole)) for number in numbers))

    def test_12_2_the_example_and_told_ones(self):
        self.assertEqual(chance(W, ((0, 2),)), (1, 4))
        self.assertEqual(chances(W, 0), ((1, 2), (1, 4), (1, 4)))
        self.assertEqual(chances(W, 2), ((0, 1), (1, 2), (1, 2)))
        self.assertEqual(chance(Log(40, ((0, 39, 0),)), ((0, 39), (1, 3), (2, 2))), (1, 59280))
        self.assertEqual(chance(Log(40, ((0, 39, 0),)), ((7, 7), (8, 8))), (1, 1560))

    def test_12_2_nought_and_one(self):
        for log in (Log(1, ()), Log(2, ()), W, Log(40, ()), big_log(1)):
            self.assertEqual(chance(log, ()), (1, 1))
        self.assertEqual(chance(W, ((2, 0),)), (0, 1))
        self.assertEqual(chance(W, ((0, 1), (1, 2))), (0, 1))
        self.assertEqual(chance(Log(40, ()), ((3, 3), (4, 4), (39, 39))), (1, 1))
        self.assertEqual(chance(Log(40, ()), ((3, 3), (4, 5), (39, 39))), (0, 1))
        self.assertEqual(chances(Log(1, ()), 0), ((1, 1),))
        self.assertEqual(chances(Log(3, ()), 1), ((0, 1), (1, 1), (0, 1)))

    def test_12_2_racks_of_seven_to_twelve(self):
        for seed, many, spills, widest in ((1, 7, 6, 4), (2, 9, 12, 3), (3, 12, 20, 3), (4, 10, 8, 5), (5, 12, 30, 2)):
            log = big_log(seed, many, spills, widest)
            choice = random.Random(seed)
            for count in (1, 2, 3):
                vials = sorted(choice.sample(range(many), count))
                told = places_told(log, vials)
                asked = choice.sample(sorted(told), min(len(told), 15))
                asked += [tuple(choice.sample(range(many), count)) for _ in range(5)]
                for places in asked:
                    self.assertEqual(chance(log, tuple(zip(vials, places))), pair_of(told.get(places, Fraction(0))))

    def test_12_2_the_chances_of_a_vial_in_large_racks(self):
        for log in big_logs() + [behind(big_log(1, spills=90, widest=3), big_log(2, spills=90))]:
            for vial in (0, 17, 39):
                told = places_told(log, [vial])
                found = chances(log, vial)
                self.assertEqual(len(found), 40)
                for place in range(40):
                    self.check_fraction(found[place])
                    self.assertEqual(found[place], pair_of(told.get((place,), Fraction(0))))
                    if place % 13 == 0:
                        self.assertEqual(chance(log, ((vial, place),)), found[place])

    def test_12_2_two_claims_in_large_racks(self):
        choice = random.Random(6)
        for seed, spills, widest in ((1, 25, 4), (2, 12, 7), (3, 60, 2), (4, 3, 20)):
            log = big_log(seed, 40, spills, widest)
            vials = sorted(choice.sample(range(40), 2))
            told = places_told(log, vials)
            for places in choice.sample(sorted(told), min(len(told), 20)) + [(0, 39), (39, 0), tuple(vials)]:
                self.assertEqual(chance(log, tuple(zip(vials, places))), pair_of(told.get(places, Fraction(0))))

    def test_12_2_three_claims_in_large_racks(self):
        for log in big_logs() + [big_log(9, spills=12), behind(big_log(9, spills=4), big_log(8, spills=100, widest=3))]:
            for claims in (((3, 5), (4, 7)), ((3, 5), (4, 30)), ((3, 3), (4, 4))):
                taken = [place for _, place in claims]
                found = [chance(log, claims + ((20, place),)) for place in range(40) if place not in taken]
                for each in found:
                    self.check_fraction(each)
                self.assertEqual(pair_of(sum(Fraction(*each) for each in found)), chance(log, claims))

    def test_12_2_three_claims_in_a_rack_that_is_mixed_whole(self):
        for log in (big_log(9, spills=99), behind(big_log(9, spills=60), big_log(8, spills=100, widest=3))):
            mixed = behind(log, Log(40, ((0, 39, 0),)))
            self.assertEqual(chance(mixed, ((3, 5), (4, 30), (20, 7))), (1, 59280))
            self.assertEqual(chance(behind(mixed, log), ((3, 39), (4, 0))), (1, 1560))

    def test_12_2_three_claims_and_four(self):
        claims = ((0, 1), (1, 0), (2, 3), (3, 2))
        log = Log(4, ((0, 1, 0), (2, 3, 0)))
        self.assertEqual(chance(log, claims[:3]), (1, 4))
        self.refuses(errors.TooMany, chance, log, claims, most=3)
        self.refuses(errors.TooMany, chance, Log(4, ()), claims, most=3)
        self.refuses(errors.TooMany, chance, Log(40, ()), tuple((vial, vial) for vial in range(40)), most=3)
        self.refuses(errors.NoClaims, chance, log, claims + ((4, 4),))
        self.refuses(errors.NoClaims, chance, log, claims + ((3, 3),))
        self.refuses(errors.NoClaims, chance, log, claims[::-1])

    def test_12_2_refuses(self):
        for thing in WRONG_CLAIMS + spoiled(((0, 1), (2, 0))):
            self.refuses(errors.NoClaims, chance, W, thing)
        for vial in [thing for thing in spoiled(0) if type(thing) is not int] + [3, -1, 10 ** 39, True, False, "0"]:
            self.refuses(errors.NoVial, chances, W, vial)
            self.refuses(errors.NoVial, chances, Log(1, ()), vial if vial != 3 else 1)


if __name__ == "__main__":
    unittest.main()
