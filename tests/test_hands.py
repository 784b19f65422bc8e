"""Points 9.1 and 9.2."""

import itertools
import random
import unittest

from tests.support import (
    Case, W, all_claims, all_histories, big_log, big_logs, coming, ends_with, has_all, in_order, number_touched,
    small_logs, spoiled,
)
from tests.test_claims import WRONG, random_claims
from walkingcut import errors
from walkingcut.hands import cleared, enough_hands, fewest_mixed, least_hands, must_hands, must_spills
from walkingcut.histories import end, led
from walkingcut.logs import Log, behind

NO_LOTS = [(1, 0), (0, 0), (-1,), (0, True), (False,), [0], {0: 1}, "0", None, 0, (0, -1), ((0,),), (None,), range(2)]
NO_HANDS = [thing for thing in spoiled(0) if type(thing) is not int] + [-1, 12, 10 ** 39, True, False, "0", (0,)]


def handed_logs():
    """Small logs in which hands come more than once."""
    found = []
    for log in small_logs(1, 1) + small_logs(2, 3) + small_logs(3, 3)[::2] + small_logs(4, 3)[3::11]:
        hands = (2, 7, 2, 11)
        found.append(Log(log.many, tuple((first, last, hands[at]) for at, (first, last, _) in enumerate(log.spills))))
    return found


def just(log, keep):
    """The log with the spills of which a function of number and hand says so."""
    return Log(log.many, tuple(spill for number, spill in enumerate(log.spills) if keep(number, spill[2])))


def lots_of(hands):
    return [lot for count in range(len(hands) + 1) for lot in itertools.combinations(hands, count)]


def hands_in(log):
    return sorted({hand for _, _, hand in log.spills})


def home_by(log, keep, least):
    """Whether an arrangement is sorted home by some spills alone, also of long logs."""
    cells = list(least)
    for number in range(len(log.spills) - 1, -1, -1):
        first, last, hand = log.spills[number]
        if keep(number, hand):
            cells[first:last + 1] = sorted(cells[first:last + 1])
    return cells == sorted(cells)


class HandsTest(Case):
    def test_9_1_hands_of_small_racks_gone_through(self):
        for log in handed_logs():
            hands = hands_in(log)
            rows = {lot: coming(just(log, lambda number, hand: hand in lot)) for lot in lots_of(hands)}
            for claims in all_claims(log.many):
                enough = [lot for lot in rows if any(has_all(row, claims) for row in rows[lot])]
                for lot in rows:
                    self.judges(lot in enough, enough_hands, log, claims, lot)
                must = tuple(hand for hand in hands if tuple(other for other in hands if other != hand) not in enough)
                self.assertEqual(must_hands(log, claims), must)
                least = [lot for lot in enough if not any(set(other) < set(lot) for other in enough)]
                self.assertEqual(least_hands(log, claims), sorted(least))

    def test_9_1_must_spills_of_small_racks_gone_through(self):
        for log in handed_logs():
            numbers = range(len(log.spills))
            rows = [coming(just(log, lambda number, hand: number != gone)) for gone in numbers]
            for claims in all_claims(log.many):
                must = tuple(gone for gone in numbers if not any(has_all(row, claims) for row in rows[gone]))
                self.assertEqual(must_spills(log, claims), must)

    def test_9_1_the_example_and_told_ones(self):
        self.assertEqual(must_hands(W, ((0, 2),)), (0, 1))
        self.assertEqual(must_spills(W, ((0, 2),)), (0, 1))
        self.assertEqual(least_hands(W, ((0, 2),)), [(0, 1)])
        log = Log(3, ((0, 1, 3), (0, 2, 5), (1, 2, 3)))
        self.assertEqual(must_hands(log, ((0, 2),)), ())
        self.assertEqual(least_hands(log, ((0, 2),)), [(3,), (5,)])
        self.assertEqual(must_spills(log, ((0, 2),)), ())
        self.assertEqual(must_spills(log, ((2, 0),)), (1,))
        both = Log(4, ((0, 1, 3), (0, 1, 8), (2, 3, 1), (2, 3, 9)))
        self.assertEqual(least_hands(both, ((1, 0), (3, 2))), [(1, 3), (1, 8), (3, 9), (8, 9)])

    def test_9_1_no_claims(self):
        for log in (Log(1, ()), Log(40, ()), W, Log(40, ((0, 39, 11),))):
            self.judges(True, enough_hands, log, (), ())
            self.assertEqual(must_hands(log, ()), ())
            self.assertEqual(least_hands(log, ()), [()])
            self.assertEqual(must_spills(log, ()), ())

    def test_9_1_claims_that_cannot_be_true_at_all(self):
        self.assertEqual(must_hands(W, ((2, 0),)), (0, 1))
        self.assertEqual(must_spills(W, ((2, 0),)), (0, 1))
        self.assertEqual(least_hands(W, ((2, 0),)), [])
        self.assertEqual(must_hands(Log(2, ()), ((0, 1),)), ())
        self.assertEqual(must_spills(Log(2, ()), ((0, 1),)), ())
        self.assertEqual(least_hands(Log(2, ()), ((0, 1),)), [])
        log = Log(40, tuple((place % 38, place % 38 + 1, place % 12) for place in range(100)))
        self.assertEqual(must_hands(log, ((0, 39),)), tuple(range(12)))
        self.assertEqual(must_spills(log, ((0, 39),)), tuple(range(100)))
        self.assertEqual(least_hands(log, ((0, 39),)), [])

    def test_9_1_lots_of_no_hand_and_of_hands_that_are_none_of_the_logs(self):
        self.judges(False, enough_hands, W, ((0, 1),), ())
        self.judges(True, enough_hands, W, ((0, 1),), (0,))
        self.judges(True, enough_hands, W, ((0, 1),), (0, 5))
        self.judges(False, enough_hands, W, ((0, 1),), (1, 5, 11))
        self.judges(False, enough_hands, W, ((0, 1),), (12, 13, 10 ** 39))
        self.judges(True, enough_hands, W, ((0, 1),), (0, 10 ** 39))
        self.judges(True, enough_hands, W, ((0, 0),), ())
        self.judges(False, enough_hands, W, ((2, 0),), (0, 1))

    def test_9_1_large_racks(self):
        long = behind(behind(big_log(1, spills=60, widest=2), big_log(2, spills=60, widest=2)), big_log(4, spills=60, widest=3))
        for seed, log in enumerate(big_logs() + [long]):
            chance = random.Random(seed)
            row = end(log, led(log, lambda number, vials: tuple(chance.sample(vials, len(vials)))))
            for most in (2, 5, 40):
                claims = random_claims(chance, row, most)
                least = in_order(40, claims)
                hands = hands_in(log)
                self.assertEqual(must_hands(log, claims), tuple(
                    gone for gone in hands if not home_by(log, lambda number, hand: hand != gone, least)
                ))
                self.assertEqual(must_spills(log, claims), tuple(
                    gone for gone in range(len(log.spills)) if not home_by(log, lambda number, hand: number != gone, least)
                ))
                lot = tuple(hand for hand in hands if chance.random() < 0.8)
                told = home_by(log, lambda number, hand: hand in lot, least)
                self.judges(told, enough_hands, log, claims, lot)
                self.check_least_hands(log, least, least_hands(log, claims))

    def check_least_hands(self, log, least, found):
        """That each lot is enough and without any one hand is not, in order, and that no other one is enough."""
        self.assertEqual(found, sorted(set(found)))
        for lot in found:
            self.assertTrue(home_by(log, lambda number, hand: hand in lot, least))
            for gone in lot:
                self.assertFalse(home_by(log, lambda number, hand: hand in lot and hand != gone, least))
        chance = random.Random(5)
        hands = hands_in(log)
        for _ in range(30):
            lot = tuple(hand for hand in hands if chance.random() < 0.7)
            told = home_by(log, lambda number, hand: hand in lot, least)
            self.assertEqual(any(set(part) <= set(lot) for part in found), told)

    def test_9_1_refuses(self):
        for thing in WRONG + spoiled(((0, 1), (2, 0))):
            self.refuses(errors.NoClaims, enough_hands, W, thing, (0,))
            self.refuses(errors.NoClaims, enough_hands, W, thing, None)
            for function in (must_hands, least_hands, must_spills):
                self.refuses(errors.NoClaims, function, W, thing)
        for thing in NO_LOTS:
            self.refuses(errors.NoLot, enough_hands, W, ((0, 1),), thing)

    def test_0_4_the_list_is_new(self):
        found = least_hands(W, ((0, 2),))
        found.clear()
        self.assertEqual(least_hands(W, ((0, 2),)), [(0, 1)])


class MixedTest(Case):
    def check_fewest(self, log, claims, number):
        found = fewest_mixed(log, claims)
        if number is None:
            self.assertIsNone(found)
            return
        self.assertIs(type(found), tuple)
        least, history = found
        self.assertEqual(least, number)
        self.assertTrue(has_all(ends_with(log, history), claims))
        self.assertEqual(number_touched(log, history), number)

    def test_9_2_fewest_mixed_of_small_racks_gone_through(self):
        logs = small_logs(1, 1) + small_logs(2, 3) + small_logs(3, 3)[::4] + small_logs(4, 2)[::5]
        for log in logs:
            touched = [(rows[-1], number_touched(log, history)) for history, rows in all_histories(log)]
            for claims in all_claims(log.many):
                numbers = [number for row, number in touched if has_all(row, claims)]
                self.check_fewest(log, claims, min(numbers, default=None))

    def test_9_2_fewest_mixed_of_five_and_six_places(self):
        for seed in range(8):
            log = big_log(seed, 5 + seed % 2, 6, 4)
            chance = random.Random(seed)
            rows = [
                (count, coming(just(log, lambda number, hand: number in kept)))
                for count in range(7) for kept in itertools.combinations(range(6), count)
            ]
            for claims in chance.sample(all_claims(log.many), 15) + [()]:
                numbers = [count for count, found in rows if any(has_all(row, claims) for row in found)]
                self.check_fewest(log, claims, min(numbers, default=None))

    def test_9_2_told_ones(self):
        self.check_fewest(W, (), 0)
        self.check_fewest(W, ((0, 2),), 2)
        self.check_fewest(W, ((2, 0),), None)
        self.check_fewest(Log(1, ()), ((0, 0),), 0)
        self.check_fewest(Log(6, ()), ((0, 1),), None)
        log = Log(6, ((0, 1, 0), (1, 2, 0), (0, 2, 0), (3, 5, 0)) * 25)
        self.check_fewest(log, ((0, 2),), 1)
        self.check_fewest(log, ((0, 2), (5, 3)), 2)
        self.check_fewest(Log(6, tuple((place % 5, place % 5 + 1, 0) for place in range(100))), ((0, 5), (5, 0)), 9)

    def test_9_2_long_logs(self):
        log = behind(Log(6, ((0, 1, 0), (1, 2, 0)) * 50), Log(6, ((3, 4, 0), (2, 3, 0)) * 50))
        self.check_fewest(log, ((0, 2),), 2)
        self.check_fewest(log, ((0, 4),), 4)
        self.check_fewest(log, ((0, 5),), None)

    def test_9_2_six_places_and_seven(self):
        for many in (7, 40):
            self.refuses(errors.TooMany, fewest_mixed, Log(many, ()), (), most=6)
            self.refuses(errors.TooMany, fewest_mixed, Log(many, ((0, 6, 0),)), ((0, 6),), most=6)
            self.refuses(errors.NoClaims, fewest_mixed, Log(many, ()), ((0, many),))
            self.refuses(errors.NoClaims, fewest_mixed, Log(many, ()), None)
        for thing in WRONG + spoiled(((0, 1), (2, 0))):
            self.refuses(errors.NoClaims, fewest_mixed, W, thing)
        self.check_fewest(Log(6, ((0, 5, 0),)), ((0, 5),), 1)

    def test_9_2_cleared_of_small_racks_gone_through(self):
        for log in handed_logs():
            for hand in (2, 7, 11, 0):
                rows = coming(just(log, lambda number, other: other != hand))
                for claims in all_claims(log.many):
                    told = any(has_all(row, claims) for row in rows)
                    self.check_cleared(log, claims, hand, told)

    def check_cleared(self, log, claims, hand, told):
        history = cleared(log, claims, hand)
        self.assertEqual(history is not None, told)
        if told:
            self.assertTrue(has_all(ends_with(log, history), claims))
            cells = list(range(log.many))
            for (first, last, other), row in zip(log.spills, history):
                if other == hand:
                    self.assertEqual(row, tuple(cells[first:last + 1]))
                cells[first:last + 1] = row

    def test_9_2_cleared_of_large_racks(self):
        logs = big_logs() + [behind(big_log(1, spills=60, widest=2), big_log(2, spills=60, widest=2))]
        for seed, log in enumerate(logs):
            chance = random.Random(seed)
            row = end(log, led(log, lambda number, vials: tuple(chance.sample(vials, len(vials)))))
            for most in (0, 1, 4, 40):
                claims = random_claims(chance, row, most)
                for hand in range(12):
                    told = home_by(log, lambda number, other: other != hand, in_order(40, claims))
                    self.check_cleared(log, claims, hand, told)

    def test_9_2_cleared_refuses(self):
        for thing in WRONG + spoiled(((0, 1), (2, 0))):
            self.refuses(errors.NoClaims, cleared, W, thing, 0)
            self.refuses(errors.NoClaims, cleared, W, thing, None)
        for hand in NO_HANDS:
            self.refuses(errors.NoHand, cleared, W, ((0, 1),), hand)
            self.refuses(errors.NoHand, cleared, Log(1, ()), (), hand)
        for hand in range(12):
            self.assertEqual(cleared(Log(1, ()), (), hand), ())


if __name__ == "__main__":
    unittest.main()
