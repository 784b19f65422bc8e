"""Points 1.1, 1.2 and 1.3."""

import unittest

from tests.support import (
    Case, W, all_small_logs, big_log, big_logs, huge_numbers, not_tuples, odd_tuples, perms, spoiled,
)
from walkingcut import errors
from walkingcut.cuts import prices, walk
from walkingcut.histories import end, led, many_histories
from walkingcut.logs import Log, backward, behind, by_hands, hands, inverse, is_arrangement, mirrored, without
from walkingcut.sorting import can_come
from walkingcut.utmosts import utmost

MOST = tuple((k % 39, k % 39 + 1, k % 12) for k in range(100))


class LogTest(Case):
    def test_1_1_the_attributes(self):
        log = Log(3, ((0, 1, 0), (1, 2, 11)))
        self.assertEqual(log.many, 3)
        self.assertEqual(log.spills, ((0, 1, 0), (1, 2, 11)))

    def test_1_1_racks_of_1_and_of_40_places(self):
        self.assertEqual(Log(1, ()).many, 1)
        self.assertEqual(Log(40, ((0, 39, 0), (38, 39, 11))).spills, ((0, 39, 0), (38, 39, 11)))
        for many in (0, 41, -1, -40, 10 ** 39):
            self.refuses(errors.BadLog, Log, many, (), part="many")

    def test_1_1_logs_of_no_spill_and_of_100(self):
        self.assertEqual(Log(40, ()).spills, ())
        self.assertEqual(Log(40, MOST).spills, MOST)
        self.refuses(errors.BadLog, Log, 40, MOST + ((0, 1, 0),), part="spills")
        self.refuses(errors.BadLog, Log, 2, ((0, 1, 0),) * 101, part="spills")

    def test_1_1_what_no_number_of_places_is(self):
        for many in not_tuples() + odd_tuples() + [(), (3,), True, False, "3", [3]]:
            self.refuses(errors.BadLog, Log, many, (), part="many")

    def test_1_1_what_no_spills_are(self):
        for spills in spoiled(((0, 1, 0), (1, 2, 1))):
            self.refuses(errors.BadLog, Log, 3, spills, part="spills")

    def test_1_1_the_parts_of_a_spill(self):
        self.assertEqual(Log(3, ((0, 2, 11),)).spills, ((0, 2, 11),))
        for spill in (
            (0, 0, 0), (1, 1, 0), (2, 2, 0), (1, 0, 0), (2, 0, 0), (-1, 1, 0), (-2, -1, 0), (0, 3, 0), (2, 3, 0),
            (3, 4, 0), (0, 1, -1), (0, 1, 12), (0, 1), (0, 1, 0, 0), (), [0, 1, 0], (False, 1, 0), (0, True, 0),
            (0, 1, False), (0, 1, True), (0, 10 ** 39, 0),
        ):
            self.refuses(errors.BadLog, Log, 3, (spill,), part="spills")
            self.refuses(errors.BadLog, Log, 3, ((0, 1, 0), spill), part="spills")
            self.refuses(errors.BadLog, Log, 3, (spill, (0, 1, 0)), part="spills")
        self.refuses(errors.BadLog, Log, 1, ((0, 0, 0),), part="spills")
        self.refuses(errors.BadLog, Log, 1, ((0, 1, 0),), part="spills")

    def test_1_1_the_first_part_that_is_wrong_is_told(self):
        for spills in ((), [], None, ((0, 1, 12),), ((0, 41, 0),)):
            self.refuses(errors.BadLog, Log, 0, spills, part="many")
            self.refuses(errors.BadLog, Log, True, spills, part="many")
            self.refuses(errors.BadLog, Log, None, spills, part="many")

    def test_1_1_equal_just_if_both_attributes_are(self):
        self.assertTrue(Log(3, ((0, 1, 0),)) == Log(3, ((0, 1, 0),)))
        self.assertFalse(Log(3, ((0, 1, 0),)) != Log(3, ((0, 1, 0),)))
        for other in (
            Log(4, ((0, 1, 0),)), Log(3, ()), Log(3, ((0, 1, 1),)), Log(3, ((0, 2, 0),)), Log(3, ((0, 1, 0),) * 2),
        ):
            self.assertFalse(Log(3, ((0, 1, 0),)) == other)
            self.assertTrue(Log(3, ((0, 1, 0),)) != other)
        self.assertTrue(Log(3, ((0, 1, 0), (1, 2, 0))) != Log(3, ((1, 2, 0), (0, 1, 0))))

    def test_0_4_a_log_is_equal_to_nothing_of_another_kind(self):
        for thing in not_tuples() + odd_tuples() + [3, (3, ()), (3, ((0, 1, 0), (1, 2, 1)))]:
            if thing is not W:
                self.assertIs(W == thing, False)
                self.assertIs(W != thing, True)

        class Alike:
            many = 3
            spills = W.spills

        self.assertIs(W == Alike(), False)


class LogFunctionsTest(Case):
    def test_1_2_hands(self):
        self.assertEqual(hands(W), (0, 1))
        self.assertEqual(hands(Log(1, ())), ())
        self.assertEqual(hands(Log(2, ((0, 1, 11), (0, 1, 2), (0, 1, 11), (0, 1, 10), (0, 1, 0)))), (0, 2, 10, 11))
        self.assertEqual(hands(Log(40, MOST)), tuple(range(12)))

    def test_1_2_behind(self):
        other = Log(3, ((0, 2, 5),))
        self.assertEqual(behind(W, other), Log(3, ((0, 1, 0), (1, 2, 1), (0, 2, 5))))
        self.assertEqual(behind(other, W), Log(3, ((0, 2, 5), (0, 1, 0), (1, 2, 1))))
        self.assertEqual(behind(W, Log(3, ())), W)
        self.assertEqual(behind(Log(3, ()), W), W)
        self.assertIsInstance(behind(W, W), Log)

    def test_1_2_behind_logs_of_another_rack(self):
        for one, other in ((Log(3, ()), Log(4, ())), (Log(40, ()), Log(39, ())), (Log(1, ()), Log(2, ((0, 1, 0),)))):
            self.refuses(errors.OtherRack, behind, one, other)
            self.refuses(errors.OtherRack, behind, other, one)

    def test_1_2_backward(self):
        self.assertEqual(backward(W), Log(3, ((1, 2, 1), (0, 1, 0))))
        self.assertEqual(backward(Log(5, ())), Log(5, ()))
        self.assertEqual(backward(Log(40, MOST)).spills, MOST[::-1])

    def test_1_2_mirrored(self):
        self.assertEqual(mirrored(W), Log(3, ((1, 2, 0), (0, 1, 1))))
        self.assertEqual(mirrored(Log(5, ((0, 1, 3), (1, 4, 7)))), Log(5, ((3, 4, 3), (0, 3, 7))))
        self.assertEqual(mirrored(Log(1, ())), Log(1, ()))
        self.assertEqual(mirrored(Log(40, ((0, 1, 0), (3, 39, 2)))), Log(40, ((38, 39, 0), (0, 36, 2))))
        for log in all_small_logs():
            self.assertEqual(mirrored(mirrored(log)), log)

    def test_1_2_by_hands(self):
        log = Log(3, ((0, 1, 0), (1, 2, 1), (0, 2, 0), (0, 1, 11)))
        self.assertEqual(by_hands(log, ()), Log(3, ()))
        self.assertEqual(by_hands(log, (0,)), Log(3, ((0, 1, 0), (0, 2, 0))))
        self.assertEqual(by_hands(log, (1, 11)), Log(3, ((1, 2, 1), (0, 1, 11))))
        self.assertEqual(by_hands(log, (0, 1, 11)), log)
        self.assertEqual(by_hands(log, tuple(range(50))), log)
        self.assertEqual(by_hands(log, (2, 12, 10 ** 39)), Log(3, ()))

    def test_1_2_by_hands_of_no_lot(self):
        for lot in [thing for thing in spoiled((0, 5)) if thing != (0, 10 ** 40 - 1) and thing != (0, 2 ** 64)]:
            self.refuses(errors.NoLot, by_hands, W, lot)
        for lot in ((0, 0), (1, 0), (0, 2, 1), (0, 1, 1), (-1,), (-1, 0), (True,), (0, True), (False, 1), [0], [], "01"):
            self.refuses(errors.NoLot, by_hands, W, lot)

    def test_1_2_without(self):
        log = Log(3, ((0, 1, 0), (1, 2, 1), (0, 2, 0), (0, 1, 11)))
        self.assertEqual(without(log, ()), log)
        self.assertEqual(without(log, (0,)), Log(3, ((1, 2, 1), (0, 2, 0), (0, 1, 11))))
        self.assertEqual(without(log, (1, 3)), Log(3, ((0, 1, 0), (0, 2, 0))))
        self.assertEqual(without(log, (0, 1, 2, 3)), Log(3, ()))
        self.assertEqual(without(Log(1, ()), ()), Log(1, ()))

    def test_1_2_without_what_no_lot_of_numbers_is(self):
        for lot in spoiled((0, 1)):
            self.refuses(errors.NoLot, without, W, lot)
        for lot in ((2,), (0, 2), (0, 1, 2), (1, 0), (0, 0), (-1,), (-2, -1), (True,), (0, True), [0], [], {0: 1}):
            self.refuses(errors.NoLot, without, W, lot)
        self.refuses(errors.NoLot, without, Log(3, ()), (0,))

    def test_1_1_a_returned_log_is_a_log_for_every_function(self):
        full = big_log(9, spills=100, widest=4)
        twice = behind(full, full)
        more = behind(behind(twice, mirrored(twice)), backward(twice))
        self.assertEqual(twice.spills, full.spills * 2)
        self.assertEqual(len(more.spills), 600)
        self.assertEqual(more.many, 40)
        self.assertEqual(backward(twice).spills, full.spills[::-1] * 2)
        self.assertEqual(mirrored(twice).spills, mirrored(full).spills * 2)
        self.assertEqual(len(by_hands(twice, tuple(range(12))).spills), 200)
        self.assertEqual(without(twice, (0, 199)).spills, full.spills[1:] + full.spills[:-1])
        self.assertEqual(hands(twice), hands(full))
        self.assertEqual(twice, behind(full, full))
        self.assertNotEqual(twice, full)
        self.assertTrue(can_come(more, utmost(more)))
        self.assertEqual(end(twice, led(twice, lambda number, vials: vials)), tuple(range(40)))
        self.assertEqual(many_histories(twice), many_histories(full) ** 2)
        self.assertEqual(len(walk(more, 20, 20)), 602)
        self.assertEqual(len(prices(more)), 41)

    def test_0_4_the_logs_that_are_passed_stay_as_they_were(self):
        for log in [W] + big_logs():
            many, spills = log.many, log.spills
            for other in (behind(log, log), backward(log), mirrored(log), by_hands(log, (0, 1)), without(log, ())):
                self.assertIsInstance(other, Log)
                self.assertEqual(other.many, many)
            self.assertEqual((log.many, log.spills), (many, spills))


class ArrangementTest(Case):
    def test_1_3_is_arrangement(self):
        for log in (Log(1, ()), Log(2, ()), W, Log(4, ())):
            for row in perms(log.many):
                self.judges(True, is_arrangement, log, row)
        self.judges(True, is_arrangement, Log(40, ()), tuple(range(40))[::-1])

    def test_1_3_what_is_none(self):
        for thing in (
            (), (0, 1), (0, 1, 2, 3), (0, 1, 1), (1, 2, 3), (0, 1, 3), (-1, 0, 1), (2, 1), [0, 1, 2], (0, 0, 0),
            (False, True, 2), (0, True, 2), (False, 1, 2), "012", b"\x00\x01\x02", range(3), {0: 0, 1: 1, 2: 2},
            ((0, 1, 2),), (0, 1, "2"), (0, 1, None), (0, 1, 2, 2), (2, 1, 0, 0),
        ):
            self.judges(False, is_arrangement, W, thing)
            self.refuses(errors.NoArrangement, inverse, W, thing)
        self.judges(False, is_arrangement, Log(1, ()), ())
        self.judges(False, is_arrangement, Log(1, ()), (False,))

    def test_1_3_things_of_all_kinds(self):
        for thing in spoiled((2, 0, 1)):
            self.judges(False, is_arrangement, W, thing)
            self.refuses(errors.NoArrangement, inverse, W, thing)
        for number in huge_numbers():
            self.judges(False, is_arrangement, W, number)

    def test_1_3_inverse(self):
        self.assertEqual(inverse(W, (1, 2, 0)), (2, 0, 1))
        self.assertEqual(inverse(Log(1, ()), (0,)), (0,))
        for row in perms(4):
            places = inverse(Log(4, ()), row)
            self.assertIsInstance(places, tuple)
            self.assertEqual([row[place] for place in places], [0, 1, 2, 3])
        turned = tuple(range(40))[::-1]
        self.assertEqual(inverse(Log(40, ()), turned), turned)


if __name__ == "__main__":
    unittest.main()
