"""Points 0.2 to 0.5, for all functions and methods of the interface."""

import unittest

from tests.calls import CALLS, COLOURS, FOUR, HISTORY, KINDS, NEVER_CRATED, NEVER_SEEN, OF_TEXTS, SHAPE, SIZES
from tests.support import Case, W, big_log, big_logs, deep, not_tuples, odd_tuples
from tests.test_interface import FUNCTIONS
from walkingcut import errors
from walkingcut.again import prices_again, prices_behind, times_still
from walkingcut.audits import Audit
from walkingcut.bounds import history_beyond
from walkingcut.chances import chance
from walkingcut.claims import bar, can_be, history_of, is_bar, least_arrangement, passed
from walkingcut.colours import bar_seen, history_seen
from walkingcut.comparing import bare, parting
from walkingcut.counting import next_one
from walkingcut.crates import bar_crated
from walkingcut.cuts import is_walk, least_price, price, prices, walk
from walkingcut.depths import deep_arrangement, deep_claims
from walkingcut.hands import cleared
from walkingcut.histories import end, is_history, led, many_histories, rows, touched, trail
from walkingcut.logs import Log, backward, behind, by_hands, hands, inverse, mirrored, without
from walkingcut.making import steps_for
from walkingcut.mixings import Mixing
from walkingcut.notes import history_noted
from walkingcut.ordering import left_pairs, left_word
from walkingcut.shapes import shape_in
from walkingcut.sorting import can_come, history_for, sorted_back
from walkingcut.telling import least_barred, most_true, places_for, sure, true_lot, vials_for, word
from walkingcut.texts import log_text
from walkingcut.utmosts import is_below, passing, utmost
from walkingcut.witnesses import filling


def largest_things():
    """Things nested as deep, and with as many objects, as they may be, and right nowhere."""
    return [
        deep(40), deep(40, list), deep(40, dict), deep(41), (deep(39),), (deep(38), 0), ((0, deep(38)),),
        ((0, 1), deep(39)), (deep(39), (2, 0)), (W, deep(39)), (None,) * 9999, ((),) * 9999, (W,) * 9999,
        (True,) * 9999, (-1,) * 9999, ([],) * 9999, "x" * 10000, b"x" * 10000, [0] * 9999, list(range(9999)),
        dict.fromkeys(range(4999), 0), ((0, 0),) * 3333, ((0, 1, 0),) * 2499, tuple(range(9999))[::-1],
        tuple((k, k) for k in range(1, 3333)), (0, 1, 2) * 3333, ((0, 0, 0),) * 2499,
    ]


class JudgedThingsTest(Case):
    def test_0_3_the_right_calls_are_answered(self):
        for function, passed_on, judged in CALLS:
            answer = function(*passed_on)
            if None in judged.values():
                self.assertIs(answer, True, function.__name__)

    def test_0_3_things_as_deep_and_as_large_as_they_may_be(self):
        things = largest_things()
        for function, right, judged in CALLS:
            for at, error in judged.items():
                for thing in things:
                    given = right[:at] + (thing,) + right[at + 1:]
                    if error is None:
                        self.judges(False, function, *given)
                    else:
                        self.refuses(error, function, *given)

    def test_0_3_things_of_all_kinds(self):
        things = not_tuples() + odd_tuples() + [-1, 1 - 10 ** 40]
        for function, right, judged in CALLS:
            for at, error in judged.items():
                for thing in things:
                    given = right[:at] + (thing,) + right[at + 1:]
                    if error is None:
                        self.judges(False, function, *given)
                    elif function not in OF_TEXTS or not isinstance(thing, str):
                        self.refuses(error, function, *given)

    def test_0_2_a_flag_is_no_integer(self):
        for function, right, judged in CALLS:
            for at, error in judged.items():
                for given in flagged(right[at]):
                    if error is None:
                        self.judges(False, function, *right[:at], given, *right[at + 1:])
                    else:
                        self.refuses(error, function, *right[:at], given, *right[at + 1:])

    def test_0_2_a_list_is_no_tuple(self):
        for function, right, judged in CALLS:
            for at, error in judged.items():
                for given in listed(right[at]):
                    if error is None:
                        self.judges(False, function, *right[:at], given, *right[at + 1:])
                    else:
                        self.refuses(error, function, *right[:at], given, *right[at + 1:])

    def test_0_3_the_first_error_that_is_named_is_raised(self):
        for function, right, judged in CALLS:
            places = sorted(at for at in judged if judged[at] is not None)
            for count, first in enumerate(places):
                given = list(right)
                for at in places[count:]:
                    given[at] = None
                self.refuses(judged[first], function, *given)


def flagged(right):
    """A right thing with a flag in the place of one integer of 0 or 1."""
    if isinstance(right, tuple):
        return [right[:at] + (part,) + right[at + 1:] for at in range(len(right)) for part in flagged(right[at])]
    return [bool(right)] if right in (0, 1) else [True, False]


def listed(right):
    """A right thing with a list in the place of one tuple."""
    if not isinstance(right, tuple):
        return []
    deeper = [right[:at] + (part,) + right[at + 1:] for at in range(len(right)) for part in listed(right[at])]
    return [list(right)] + deeper


def written(arguments):
    """What arguments are, to the last thing inside them."""
    return repr([vars(part) if isinstance(part, (Log, Mixing)) else part for part in arguments])


def made_apart(part):
    """A log or a mixing that is equal, but constructed again; what else it is itself."""
    if isinstance(part, Log):
        return Log(part.many, tuple(list(part.spills)))
    return Mixing(part.many, tuple(list(part.lots))) if isinstance(part, Mixing) else part


class AnswersTest(Case):
    def test_0_4_equal_calls_give_equal_answers_and_change_nothing(self):
        for function, right, _ in CALLS:
            before = written(right)
            first = function(*right)
            again = function(*[made_apart(part) for part in right])
            self.assertEqual(first, again, function.__name__)
            self.assertIs(type(first), type(again))
            self.assertEqual(written(right), before)

    def test_0_4_the_calls_are_of_all_functions(self):
        called = {function.__name__ for function, _, _ in CALLS} | {"led"}
        for file, functions in FUNCTIONS.items():
            self.assertLessEqual(set(functions), called, file)

    def test_0_4_free_results_for_equal_logs_are_equal(self):
        claims = tuple((vial, 39 - vial) for vial in range(8))
        halves = tuple(range(20, 40)), tuple(range(20))
        asked = [
            lambda log: walk(log, 20, 20), lambda log: history_for(log, utmost(log)),
            lambda log: history_of(log, claims[:1]), lambda log: bar(log, claims), lambda log: true_lot(log, claims),
            lambda log: deep_claims(log, 1), lambda log: deep_arrangement(log, 1),
            lambda log: parting(log, Log(40, ())), lambda log: steps_for(log, utmost(log)),
            lambda log: filling(log, log, utmost(log), tuple(range(40))),
            lambda log: history_noted(log, ((0, tuple(range(40))),)),
            lambda log: history_seen(log, (0, 1) * 20, (1, 0) * 20), lambda log: bar_crated(log, (20, 20), halves),
            lambda log: cleared(log, claims[:1], 3), lambda log: history_beyond(log, (1,) * 40),
            lambda log: next_one(log, tuple(range(40))), lambda log: chance(log, claims[:2]),
            lambda log: log_text(bare(log)), lambda log: Audit(log).try_claim(0, 39),
        ]
        for log in big_logs()[:3] + big_logs()[5:]:
            again = made_apart(log)
            for ask in asked:
                self.assertEqual(ask(log), ask(again))
                self.assertEqual(ask(log), ask(log))
            self.assertEqual(log, again)

    def test_0_4_arguments_are_passed_by_position_and_lists_are_new(self):
        for function, right, _ in CALLS:
            first = function(*right)
            if isinstance(first, list):
                kept = list(first)
                self.assertIsNot(function(*right), first)
                first.clear()
                self.assertEqual(function(*right), kept)

    def test_0_4_the_kinds_of_the_answers(self):
        asked = {function: kind for kind, functions in KINDS.items() for function in functions}
        self.assertEqual(len(asked), len(CALLS))
        for function, right, _ in CALLS:
            self.assertIs(type(function(*right)), asked[function], function.__name__)
        self.assertIs(type(led(W, lambda number, vials: vials)), tuple)
        self.assertIs(type(bar(W, ((0, 1), (1, 2)))), tuple)
        self.assertIs(type(least_barred(W, ((0, 1), (1, 2)))), tuple)
        turned = steps_for(FOUR, SHAPE)
        self.assertIs(type(shape_in(turned)), tuple)
        self.assertIs(type(deep_arrangement(turned, 1)), tuple)
        self.assertIs(type(parting(W, Log(3, ()))), tuple)
        self.assertIs(type(bar_seen(W, COLOURS, NEVER_SEEN)), tuple)
        self.assertIs(type(bar_crated(W, SIZES, NEVER_CRATED)), tuple)

    def test_0_5_numbers_of_forty_figures(self):
        for number in (10 ** 39, 10 ** 40 - 1, -10 ** 39):
            self.refuses(errors.NoVial, trail, W, HISTORY, number)
            self.refuses(errors.NoCut, least_price, W, number, 0)
            self.refuses(errors.NoNumber, prices_again, W, number)
            self.refuses(errors.BadLog, Log, number, (), part="many")
            self.refuses(errors.BadLog, Log, 3, ((0, number, 0),), part="spills")
        large = ((10 ** 40 - 1, 10 ** 39), (0, 10 ** 40 - 1))
        self.assertEqual(prices_behind(large, large), ((10 ** 39, 11 * 10 ** 39 - 1), (10 ** 40 - 1, 10 ** 39)))

    def test_1_1_a_returned_log_is_a_log_for_every_function(self):
        long = W
        for _ in range(59):
            long = behind(long, W)
        self.assertEqual(long.spills, W.spills * 60)
        all_rows = [(0, 1, 2), (0, 2, 1), (1, 0, 2), (1, 2, 0), (2, 0, 1), (2, 1, 0)]
        turned = ((0, 2), (1, 1), (2, 0))
        self.assertEqual(hands(long), (0, 1))
        self.assertEqual(backward(long).spills, W.spills[::-1] * 60)
        self.assertEqual(mirrored(long).spills, mirrored(W).spills * 60)
        self.assertEqual(by_hands(long, (1,)).spills, ((1, 2, 1),) * 60)
        self.assertEqual(len(without(long, (3, 119)).spills), 118)
        self.refuses(errors.NoLot, without, long, (3, 120))
        self.assertEqual(inverse(long, (1, 2, 0)), (2, 0, 1))
        history = led(long, lambda number, vials: vials[::-1])
        self.assertIs(is_history(long, history), True)
        self.assertEqual(len(rows(long, history)), 121)
        self.assertEqual(len(trail(long, history, 0)), 121)
        self.assertEqual(touched(long, history), tuple(range(120)))
        self.assertEqual(many_histories(long), 2 ** 120)
        for row in all_rows:
            self.assertIs(can_come(long, row), True)
            self.assertEqual(end(long, history_for(long, row)), row)
            self.assertEqual(sorted_back(long, row), (0, 1, 2))
            self.assertIs(is_below(long, row, utmost(long)), True)
        self.assertEqual(passing(long, utmost(long), 1, 1), 1)
        cuts = walk(long, 1, 1)
        self.assertIs(is_walk(long, cuts), True)
        self.assertEqual((len(cuts), price(long, cuts), least_price(long, 1, 1)), (122, 1, 1))
        self.assertEqual(prices(long), prices_again(W, 60))
        self.assertEqual(prices_again(long, 10 ** 30), prices(long))
        self.assertEqual(times_still(long), 1)
        self.assertIs(can_be(long, turned), True)
        self.assertEqual(end(long, history_of(long, turned)), (2, 1, 0))
        self.assertIsNone(bar(long, turned))
        self.assertIs(is_bar(long, turned, cuts), False)
        self.assertIs(is_bar(long, turned, (0,) + cuts[1:]), False)
        self.assertEqual(passed(long, turned, 1, 1), 1)
        self.assertEqual(least_arrangement(long, turned), (2, 1, 0))
        self.assertEqual(word(long, ((0, 2),), 1, 1), "open")
        self.assertEqual(places_for(long, (), 0), (0, 1, 2))
        self.assertEqual(vials_for(long, ((0, 2),), 0), (1, 2))
        self.assertEqual(sure(long, ((0, 2), (1, 1))), turned)
        self.assertIsNone(least_barred(long, turned))
        self.assertEqual((most_true(long, turned), true_lot(long, turned)), (3, turned))
        self.assertEqual(left_word(long, (), 0, 2), "open")
        self.assertEqual(left_pairs(long, ((0, 2),)), [(1, 0), (2, 0)])

    def test_0_5_what_was_returned_may_be_passed_on(self):
        log = big_log(11, spills=40, widest=5)
        twice = behind(log, log)
        longer = behind(behind(twice, twice), twice)
        self.assertGreater(len(longer.spills), 200)
        history = led(longer, lambda number, vials: vials[::-1])
        self.assertTrue(is_history(longer, history))
        self.assertTrue(can_come(longer, rows(longer, history)[-1]))
        self.assertTrue(is_walk(longer, walk(longer, 20, 20)))
        table = prices_behind(prices(longer), prices(longer))
        self.assertEqual(prices_behind(table, table), prices_again(longer, 4))


if __name__ == "__main__":
    unittest.main()
