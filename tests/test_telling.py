"""Points 5.3 and 5.4."""

import random
import unittest

from tests.support import (
    Case, W, all_claims, all_parts, big_logs, coming, has_all, in_order, some_small_logs, sorts_home, spoiled,
)
from tests.test_claims import WRONG, random_claims
from walkingcut import errors
from walkingcut.histories import end, led
from walkingcut.logs import Log, behind
from walkingcut.telling import least_barred, most_true, places_for, sure, true_lot, vials_for, word

BARRED = ((0, 1), (1, 2))
NUMBERS = [thing for thing in spoiled(0) if type(thing) is not int] + [-1, 3, 10 ** 39, True, False, "0"]


def having(log, claims):
    return [row for row in coming(log) if has_all(row, claims)]


class WordTest(Case):
    def test_5_3_words_places_vials_and_what_is_sure(self):
        for log in some_small_logs():
            right = coming(log)
            numbers = range(log.many)
            for claims in all_claims(log.many):
                rows = [row for row in right if has_all(row, claims)]
                if not rows:
                    continue
                for vial in numbers:
                    places = {row.index(vial) for row in rows}
                    self.assertEqual(places_for(log, claims, vial), tuple(sorted(places)))
                    self.assertEqual(vials_for(log, claims, vial), tuple(sorted({row[vial] for row in rows})))
                    for place in numbers:
                        expected = "never" if place not in places else "surely" if len(places) == 1 else "open"
                        self.assertEqual(word(log, claims, vial, place), expected)
                certain = [(v, p) for v in numbers for p in numbers if all(row[p] == v for row in rows)]
                self.assertEqual(sure(log, claims), tuple(certain))

    def test_5_3_barred_claims(self):
        for log in some_small_logs():
            right = coming(log)
            for claims in all_claims(log.many):
                if not any(has_all(row, claims) for row in right):
                    self.refuses(errors.Barred, word, log, claims, 0, 0)
                    self.refuses(errors.Barred, places_for, log, claims, 0)
                    self.refuses(errors.Barred, vials_for, log, claims, 0)
                    self.refuses(errors.Barred, sure, log, claims)

    def test_5_3_what_no_claims_are(self):
        for thing in WRONG + spoiled(((0, 1), (2, 0))):
            self.refuses(errors.NoClaims, word, W, thing, 0, 0)
            self.refuses(errors.NoClaims, places_for, W, thing, 0)
            self.refuses(errors.NoClaims, vials_for, W, thing, 0)
            self.refuses(errors.NoClaims, sure, W, thing)

    def test_5_3_what_no_vial_and_no_place_is(self):
        for wrong in NUMBERS:
            self.refuses(errors.NoVial, word, W, ((1, 0),), wrong, 0)
            self.refuses(errors.NoPlace, word, W, ((1, 0),), 0, wrong)
            self.refuses(errors.NoVial, places_for, W, (), wrong)
            self.refuses(errors.NoPlace, vials_for, W, (), wrong)

    def test_5_3_the_order_of_the_errors(self):
        self.refuses(errors.NoClaims, word, W, ((0, 3),), 3, 3)
        self.refuses(errors.Barred, word, W, BARRED, 3, 3)
        self.refuses(errors.NoVial, word, W, (), 3, 3)
        self.refuses(errors.NoPlace, word, W, (), 2, 3)
        self.refuses(errors.NoClaims, places_for, W, ((0, 3),), 3)
        self.refuses(errors.Barred, places_for, W, BARRED, 3)
        self.refuses(errors.NoClaims, vials_for, W, ((0, 3),), 3)
        self.refuses(errors.Barred, vials_for, W, BARRED, 3)

    def test_5_3_racks_of_one_place_and_without_spills(self):
        self.assertEqual(word(Log(1, ()), (), 0, 0), "surely")
        self.assertEqual(places_for(Log(1, ()), ((0, 0),), 0), (0,))
        still = Log(40, ())
        self.assertEqual(sure(still, ()), tuple((vial, vial) for vial in range(40)))
        self.assertEqual(word(still, (), 39, 39), "surely")
        self.assertEqual(word(still, (), 39, 38), "never")
        self.assertEqual(vials_for(still, ((3, 3),), 3), (3,))
        mixed = Log(40, ((0, 39, 0),))
        self.assertEqual(places_for(mixed, (), 7), tuple(range(40)))
        self.assertEqual(sure(mixed, ()), ())
        self.assertEqual(vials_for(mixed, ((7, 0),), 1), tuple(vial for vial in range(40) if vial != 7))
        most = tuple((vial, 39 - vial) for vial in range(39))
        self.assertEqual(sure(mixed, most), most + ((39, 0),))

    def test_5_3_large_racks(self):
        for seed, log in enumerate(big_logs()):
            chance = random.Random(seed)
            row = end(log, led(log, lambda number, vials: tuple(chance.sample(vials, len(vials)))))
            claims = random_claims(chance, row, 12)
            table = {vial: self.right_places(log, claims, vial) for vial in chance.sample(range(40), 5)}
            certain = sure(log, claims)
            self.assertTrue(set(claims) <= set(certain))
            for vial, places in table.items():
                self.assertIn(row.index(vial), places)
                self.assertEqual(places_for(log, claims, vial), places)
                self.assertEqual([pair for pair in certain if pair[0] == vial], [(vial, p) for p in places[:1] if len(places) == 1])
                for place in chance.sample(range(40), 3):
                    expected = "never" if place not in places else "surely" if len(places) == 1 else "open"
                    self.assertEqual(word(log, claims, vial, place), expected)
                    self.assertEqual(vial in vials_for(log, claims, place), place in places)

    def right_places(self, log, claims, vial):
        """The places where the vial can be, by the first and the fourth fact."""
        if vial in dict(claims):
            return (dict(claims)[vial],)
        taken = [place for _, place in claims]
        return tuple(
            place for place in range(40)
            if place not in taken and sorts_home(log, in_order(40, claims + ((vial, place),)))
        )

    def test_1_1_logs_larger_than_constructed_ones(self):
        log = Log(5, ((0, 1, 0),) * 99 + ((1, 2, 0),))
        long = behind(behind(log, log), log)
        self.assertEqual(places_for(long, (), 0), (0, 1, 2))
        self.assertEqual(sure(long, ()), ((3, 3), (4, 4)))
        self.assertEqual(word(long, (), 2, 0), "open")
        self.assertEqual(least_barred(long, ((0, 1), (3, 4))), ((3, 4),))


class PartsTest(Case):
    def test_5_4_least_barred_most_true_and_a_lot(self):
        for log in some_small_logs():
            right = coming(log)
            can = {claims: any(has_all(row, claims) for row in right) for claims in all_claims(log.many)}
            for claims in can:
                tight = [
                    part for part in all_parts(claims)
                    if not can[part] and all(can[part[:k] + part[k + 1:]] for k in range(len(part)))
                ]
                self.assertEqual(least_barred(log, claims), min(tight) if tight else None)
                most = max(len(part) for part in all_parts(claims) if can[part])
                self.assertEqual(most_true(log, claims), most)
                lot = true_lot(log, claims)
                self.assertIs(type(lot), tuple)
                self.assertEqual(len(lot), most)
                self.assertIn(lot, all_parts(claims))
                self.assertTrue(can[lot])

    def test_5_4_least_is_as_tuples_and_not_the_shortest(self):
        log = Log(4, ((0, 1, 0), (1, 2, 0)))
        claims = ((0, 1), (1, 2), (2, 3))
        self.assertEqual(least_barred(log, claims), ((0, 1), (1, 2)))
        self.assertEqual(least_barred(log, ((1, 2), (2, 3))), ((2, 3),))
        self.assertEqual(most_true(log, claims), 1)
        self.assertIn(true_lot(log, claims), [((0, 1),), ((1, 2),)])

    def test_5_4_no_claims(self):
        for log in (Log(1, ()), W, Log(40, ())):
            self.assertIsNone(least_barred(log, ()))
            self.assertEqual(most_true(log, ()), 0)
            self.assertEqual(true_lot(log, ()), ())

    def test_5_4_twelve_claims_and_thirteen(self):
        right = tuple((vial, vial) for vial in range(13))
        wrong = tuple((vial, vial + 1) for vial in range(13))
        for log in (Log(14, ()), Log(14, ((0, 13, 0),)), Log(40, ((0, 1, 0), (1, 2, 0), (0, 2, 0)))):
            for claims in (right, wrong):
                for function in (least_barred, most_true, true_lot):
                    self.refuses(errors.TooMany, function, log, claims, most=12)
            self.assertIsNone(least_barred(log, right[:12]))
            self.assertEqual(most_true(log, right[:12]), 12)
            self.assertEqual(true_lot(log, right[:12]), right[:12])
        self.assertEqual(least_barred(Log(14, ()), wrong[:12]), ((0, 1),))
        self.assertEqual(most_true(Log(14, ()), wrong[:12]), 0)
        self.assertEqual(true_lot(Log(14, ()), wrong[:12]), ())
        self.assertEqual(most_true(Log(14, ((0, 13, 0),)), wrong[:12]), 12)

    def test_5_4_twelve_claims_of_large_racks(self):
        chance = random.Random(3)
        for log in big_logs()[:3]:
            vials, places = sorted(chance.sample(range(40), 12)), chance.sample(range(40), 12)
            claims = tuple(zip(vials, places))
            can = {part: sorts_home(log, in_order(40, part)) for part in all_parts(claims)}
            tight = [
                part for part in can if not can[part] and all(can[part[:k] + part[k + 1:]] for k in range(len(part)))
            ]
            self.assertEqual(least_barred(log, claims), min(tight) if tight else None)
            self.assertEqual(most_true(log, claims), max(len(part) for part in can if can[part]))
            self.assertTrue(can[true_lot(log, claims)])
            self.assertEqual(len(true_lot(log, claims)), most_true(log, claims))

    def test_5_4_what_no_claims_are(self):
        many = tuple((vial, vial) for vial in range(13))
        for function in (least_barred, most_true, true_lot):
            for thing in WRONG + spoiled(((0, 1), (2, 0))):
                self.refuses(errors.NoClaims, function, W, thing)
            self.refuses(errors.NoClaims, function, Log(13, ()), many[::-1])
            self.refuses(errors.NoClaims, function, Log(12, ()), many)
            self.refuses(errors.NoClaims, function, Log(40, ()), list(many))


if __name__ == "__main__":
    unittest.main()
