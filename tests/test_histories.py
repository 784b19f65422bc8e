"""Points 2.1 and 2.2."""

import math
import unittest

from tests.support import Case, W, all_histories, big_logs, some_small_logs, spoiled
from walkingcut import errors
from walkingcut.histories import end, is_history, led, many_histories, rows, touched, trail
from walkingcut.logs import Log


def turned(number, vials):
    return vials[::-1]


class HistoryTest(Case):
    def test_2_1_all_histories_of_small_logs(self):
        for log in some_small_logs():
            for history, arrangements in all_histories(log):
                self.judges(True, is_history, log, history)
                self.assertEqual(rows(log, history), list(arrangements))
                self.assertEqual(end(log, history), arrangements[-1])
                for vial in range(log.many):
                    self.assertEqual(trail(log, history, vial), [row.index(vial) for row in arrangements])

    def test_2_1_a_log_with_no_spill(self):
        for many in (1, 3, 40):
            log = Log(many, ())
            home = tuple(range(many))
            self.judges(True, is_history, log, ())
            self.assertEqual(rows(log, ()), [home])
            self.assertEqual(end(log, ()), home)
            self.assertEqual(trail(log, (), many - 1), [many - 1])
            self.assertEqual(touched(log, ()), ())
            self.assertEqual(led(log, turned), ())
            self.assertEqual(many_histories(log), 1)

    def test_2_1_the_first_wrong_row_is_told(self):
        for history, number in (
            ((), -1), (((1, 0),), -1), (((1, 0), (2, 0), (0, 1)), -1), ([(1, 0), (2, 0)], -1), (None, -1), (7, -1),
            (((1, 0), (2, 1)), 1), (((1, 0), (2, 0, 0)), 1), (((1, 0), (2,)), 1), (((1, 0), ()), 1),
            (((1, 2), (2, 0)), 0), (((1, 1), (9, 9)), 0), (((0,), (2, 0)), 0), (([1, 0], (2, 0)), 0),
            (((1, 0), [2, 0]), 1), (((1, 0), None), 1), ((None, None), 0), (((True, 0), (2, 0)), 0),
            (((1, False), (2, 0)), 0), (((1, 0), (2, False)), 1), (((1, 0), "20"), 1), (((1, 0), range(2)), 1),
        ):
            self.judges(False, is_history, W, history)
            self.refuses(errors.NoHistory, end, W, history, number=number)
            self.refuses(errors.NoHistory, rows, W, history, number=number)
            self.refuses(errors.NoHistory, trail, W, history, 0, number=number)

    def test_2_1_things_of_all_kinds(self):
        for thing in spoiled(((1, 0), (2, 0))):
            number = -1
            if isinstance(thing, tuple) and len(thing) == 2:
                # As texts, since a flag is equal to an integer.
                number = 1 if repr(thing[0]) == "(1, 0)" else 0
            self.judges(False, is_history, W, thing)
            self.refuses(errors.NoHistory, end, W, thing, number=number)
            self.refuses(errors.NoHistory, trail, W, thing, None, number=number)

    def test_2_1_trail_refuses_what_no_vial_is(self):
        history = ((1, 0), (2, 0))
        self.assertEqual(trail(W, history, 0), [0, 1, 2])
        for vial in spoiled(0) + [3, True, False, -3]:
            if type(vial) is not int or not 0 <= vial < 3:
                self.refuses(errors.NoVial, trail, W, history, vial)
        self.refuses(errors.NoHistory, trail, W, ((1, 0), (2, 1)), 3, number=1)
        self.refuses(errors.NoVial, trail, Log(40, ()), (), 40)

    def test_2_1_led_asks_for_each_row(self):
        asked = []

        def put(number, vials):
            asked.append((number, vials))
            return vials[::-1]

        self.assertEqual(led(W, put), ((1, 0), (2, 0)))
        self.assertEqual(asked, [(0, (0, 1)), (1, (0, 2))])
        for log in big_logs():
            history = led(log, turned)
            self.judges(True, is_history, log, history)
            self.assertEqual(led(log, turned), history)

    def test_2_1_led_can_lead_to_all_histories(self):
        for log in some_small_logs():
            for history, _ in all_histories(log):
                self.assertEqual(led(log, lambda number, vials: history[number]), history)

    def test_2_1_led_tells_the_first_wrong_row(self):
        for wrong in [row for row in spoiled((2, 0))] + [(2, 1), (0, 0), (2, 0, 0), (0,), (2, False)]:
            self.refuses(errors.NoHistory, led, W, lambda number, vials: wrong if number else (1, 0), number=1)
        for wrong in [row for row in spoiled((1, 0))] + [(0, 2), (1, 1), (True, 0), (1, False), (0, 1, 2), [0, 1]]:
            self.refuses(errors.NoHistory, led, W, lambda number, vials: vials if number else wrong, number=0)
        self.refuses(errors.NoHistory, led, W, lambda number, vials: None, number=0)

    def test_2_1_the_errors_of_what_leads_go_on(self):
        class Own(Exception):
            pass

        for error in (Own("x"), ValueError("x"), KeyError("x"), StopIteration(), errors.NoHistory(77), errors.NoLot()):
            def put(number, vials):
                if number == 1:
                    raise error
                return vials

            with self.assertRaises(type(error)) as caught:
                led(W, put)
            self.assertIs(caught.exception, error)

    def test_0_4_each_list_is_new(self):
        history = ((1, 0), (2, 0))
        first = rows(W, history)
        first.append(None)
        self.assertEqual(rows(W, history), [(0, 1, 2), (1, 0, 2), (1, 2, 0)])
        places = trail(W, history, 0)
        places.clear()
        self.assertEqual(trail(W, history, 0), [0, 1, 2])
        self.assertIsInstance(end(W, history), tuple)

    def test_2_2_many_histories(self):
        self.assertEqual(many_histories(W), 4)
        self.assertEqual(many_histories(Log(4, ((0, 3, 0), (1, 3, 0), (2, 3, 0)))), 24 * 6 * 2)
        self.assertEqual(many_histories(Log(40, ((0, 39, 0),) * 100)), math.factorial(40) ** 100)
        for log in some_small_logs():
            self.assertEqual(many_histories(log), len(all_histories(log)))

    def test_2_2_touched(self):
        self.assertEqual(touched(W, ((0, 1), (1, 2))), ())
        self.assertEqual(touched(W, ((1, 0), (0, 2))), (0,))
        self.assertEqual(touched(W, ((0, 1), (2, 1))), (1,))
        self.assertEqual(touched(W, ((1, 0), (2, 0))), (0, 1))
        twice = Log(2, ((0, 1, 0), (0, 1, 0), (0, 1, 0)))
        self.assertEqual(touched(twice, ((1, 0), (1, 0), (0, 1))), (0, 2))
        for log in some_small_logs():
            for history, arrangements in all_histories(log):
                changed = [k for k in range(len(history)) if arrangements[k] != arrangements[k + 1]]
                self.assertEqual(touched(log, history), tuple(changed))


if __name__ == "__main__":
    unittest.main()
