"""Points 0.2 to 0.5, for all functions of the interface that have landed."""

import unittest

from tests.support import Case, W, big_log, deep
from walkingcut import errors
from walkingcut.again import prices_again, prices_behind, times_still
from walkingcut.bounds import (
    can_be_ahead, can_be_beyond, history_ahead, history_beyond, least_ahead, least_beyond,
)
from walkingcut.choosing import either, many_either
from walkingcut.claims import bar, can_be, history_of, is_bar, is_claims, least_arrangement, passed
from walkingcut.colours import all_seen, bar_seen, can_be_seen, history_seen, is_bar_seen, least_seen, many_seen
from walkingcut.comparing import alike, apart, bare, needless, never_more, parting, same_alone, stretch
from walkingcut.crates import (
    bar_crated, can_be_crated, history_crated, is_bar_crated, least_crated, many_crated,
)
from walkingcut.cuts import is_walk, least_price, price, prices, walk
from walkingcut.depths import (
    below_by, deep_arrangement, deep_claims, depth, depth_for_all, is_deep, loads, needed,
)
from walkingcut.hands import cleared, enough_hands, fewest_mixed, least_hands, must_hands, must_spills
from walkingcut.helping import helpers, helpers_at
from walkingcut.histories import end, is_history, led, many_histories, rows, touched, trail
from walkingcut.logs import Log, backward, behind, by_hands, hands, inverse, is_arrangement, mirrored, without
from walkingcut.making import fewest_spills, inversions, steps_for
from walkingcut.ordering import left_pairs, left_word
from walkingcut.shapes import shape_in, stands_at
from walkingcut.sorting import can_come, history_for, sorted_back
from walkingcut.telling import least_barred, most_true, places_for, sure, true_lot, vials_for, word
from walkingcut.utmosts import is_below, passing, utmost

ROW = (1, 2, 0)
HISTORY = ((1, 0), (2, 0))
CLAIMS = ((0, 1), (2, 2))
SQUARE = ((0, 0), (1, 0))
BARRED = ((0, 1), (1, 2))
COLOURS, SEEN, NEVER_SEEN = (0, 0, 1), (0, 1, 0), (1, 0, 0)
FOUR = Log(4, ((0, 1, 0),))
SHAPE = (3, 1, 2, 0)
SIZES, CRATED, NEVER_CRATED = (1, 2), ((1,), (0, 2)), ((2,), (0, 1))
CHOICES = ((0, (0, 1)), (2, (1, 2)))
BOUNDS = (1, 0, 0)

# Each function, arguments that are right, and for each place of an argument that is judged the error that is named
# for it, or None if the function tells False of it.
CALLS = [
    (Log, (3, W.spills), {0: errors.BadLog, 1: errors.BadLog}),
    (hands, (W,), {}), (behind, (W, W), {}), (backward, (W,), {}), (mirrored, (W,), {}),
    (by_hands, (W, (0,)), {1: errors.NoLot}), (without, (W, (0,)), {1: errors.NoLot}),
    (is_arrangement, (W, ROW), {1: None}), (inverse, (W, ROW), {1: errors.NoArrangement}),
    (is_history, (W, HISTORY), {1: None}), (end, (W, HISTORY), {1: errors.NoHistory}),
    (rows, (W, HISTORY), {1: errors.NoHistory}),
    (trail, (W, HISTORY, 0), {1: errors.NoHistory, 2: errors.NoVial}),
    (many_histories, (W,), {}), (touched, (W, HISTORY), {}),
    (sorted_back, (W, ROW), {1: errors.NoArrangement}), (can_come, (W, ROW), {1: errors.NoArrangement}),
    (history_for, (W, ROW), {1: errors.NoArrangement}), (utmost, (W,), {}),
    (passing, (W, ROW, 1, 1), {1: errors.NoArrangement, 2: errors.NoCut, 3: errors.NoCut}),
    (is_below, (W, ROW, ROW), {1: errors.NoArrangement, 2: None}),
    (is_walk, (W, (2, 2, 1, 1)), {1: None}), (price, (W, (2, 2, 1, 1)), {1: errors.NoWalk}),
    (least_price, (W, 2, 1), {1: errors.NoCut, 2: errors.NoCut}),
    (walk, (W, 2, 1), {1: errors.NoCut, 2: errors.NoCut}), (prices, (W,), {}),
    (prices_behind, (SQUARE, SQUARE), {0: errors.NoPrices, 1: errors.NoPrices}),
    (prices_again, (W, 2), {1: errors.NoNumber}), (times_still, (W,), {}),
    (is_claims, (W, CLAIMS), {1: None}), (least_arrangement, (W, CLAIMS), {1: errors.NoClaims}),
    (can_be, (W, CLAIMS), {1: errors.NoClaims}), (history_of, (W, CLAIMS), {1: errors.NoClaims}),
    (passed, (W, CLAIMS, 1, 1), {1: errors.NoClaims, 2: errors.NoCut, 3: errors.NoCut}),
    (bar, (W, CLAIMS), {1: errors.NoClaims}), (is_bar, (W, ((0, 1), (1, 2)), (2, 2, 1, 1)), {1: errors.NoClaims, 2: None}),
    (word, (W, CLAIMS, 1, 0), {1: errors.NoClaims, 2: errors.NoVial, 3: errors.NoPlace}),
    (places_for, (W, CLAIMS, 1), {1: errors.NoClaims, 2: errors.NoVial}),
    (vials_for, (W, CLAIMS, 1), {1: errors.NoClaims, 2: errors.NoPlace}), (sure, (W, CLAIMS), {1: errors.NoClaims}),
    (least_barred, (W, CLAIMS), {1: errors.NoClaims}), (most_true, (W, CLAIMS), {1: errors.NoClaims}),
    (true_lot, (W, CLAIMS), {1: errors.NoClaims}),
    (left_word, (W, CLAIMS, 0, 1), {1: errors.NoClaims, 2: errors.NoVial, 3: errors.NoVial}),
    (left_pairs, (W, CLAIMS), {1: errors.NoClaims}),
    (needed, (W,), {}), (loads, (W, 2, 1), {1: errors.NoCut, 2: errors.NoCut}),
    (below_by, (W, ROW), {1: errors.NoArrangement}), (depth, (W,), {}), (depth_for_all, (W,), {}),
    (deep_claims, (W, 1), {1: errors.NoNumber}), (deep_arrangement, (W, 1), {1: errors.NoNumber}),
    (is_deep, (W, 1, BARRED), {1: errors.NoNumber, 2: None}), (shape_in, (W,), {}),
    (stands_at, (FOUR, SHAPE, 0, (0, 1, 2, 3)), {1: errors.NoArrangement, 2: errors.NoNumber, 3: None}),
    (alike, (W, W), {}), (never_more, (W, W), {}), (parting, (W, W), {}), (same_alone, (W, W), {}),
    (needless, (W,), {}), (bare, (W,), {}), (stretch, (W, 1), {1: errors.NoVial}), (apart, (W,), {}),
    (steps_for, (W, ROW), {1: errors.NoArrangement}), (fewest_spills, (W, ROW), {1: errors.NoArrangement}),
    (inversions, (W, ROW), {1: errors.NoArrangement}),
    (can_be_seen, (W, COLOURS, SEEN), {1: errors.NoColours, 2: errors.NoSeen}),
    (least_seen, (W, COLOURS, SEEN), {1: errors.NoColours, 2: errors.NoSeen}),
    (history_seen, (W, COLOURS, SEEN), {1: errors.NoColours, 2: errors.NoSeen}),
    (bar_seen, (W, COLOURS, SEEN), {1: errors.NoColours, 2: errors.NoSeen}),
    (is_bar_seen, (W, COLOURS, NEVER_SEEN, (2, 2, 1, 1)), {1: errors.NoColours, 2: errors.NoSeen, 3: None}),
    (many_seen, (W, COLOURS), {1: errors.NoColours}), (all_seen, (W, COLOURS), {1: errors.NoColours}),
    (can_be_crated, (W, SIZES, CRATED), {1: errors.NoSizes, 2: errors.NoCrated}),
    (least_crated, (W, SIZES, CRATED), {1: errors.NoSizes, 2: errors.NoCrated}),
    (history_crated, (W, SIZES, CRATED), {1: errors.NoSizes, 2: errors.NoCrated}),
    (bar_crated, (W, SIZES, CRATED), {1: errors.NoSizes, 2: errors.NoCrated}),
    (is_bar_crated, (W, SIZES, NEVER_CRATED, (2, 2, 1, 1)), {1: errors.NoSizes, 2: errors.NoCrated, 3: None}),
    (many_crated, (W, SIZES), {1: errors.NoSizes}),
    (either, (W, CHOICES), {1: errors.NoChoices}), (many_either, (W, CHOICES), {1: errors.NoChoices}),
    (least_beyond, (W, BOUNDS), {1: errors.NoBounds}), (least_ahead, (W, (1, 1, 2)), {1: errors.NoBounds}),
    (can_be_beyond, (W, BOUNDS), {1: errors.NoBounds}), (can_be_ahead, (W, (1, 1, 2)), {1: errors.NoBounds}),
    (history_beyond, (W, BOUNDS), {1: errors.NoBounds}), (history_ahead, (W, (1, 1, 2)), {1: errors.NoBounds}),
    (enough_hands, (W, CLAIMS, (0, 1)), {1: errors.NoClaims, 2: errors.NoLot}),
    (must_hands, (W, CLAIMS), {1: errors.NoClaims}), (least_hands, (W, CLAIMS), {1: errors.NoClaims}),
    (must_spills, (W, CLAIMS), {1: errors.NoClaims}), (fewest_mixed, (W, CLAIMS), {1: errors.NoClaims}),
    (cleared, (W, CLAIMS, 1), {1: errors.NoClaims, 2: errors.NoHand}), (helpers, (W, CLAIMS), {1: errors.NoClaims}),
    (helpers_at, (W, CLAIMS, 1), {1: errors.NoClaims, 2: errors.NoNumber}),
]


def largest_things():
    """Things nested as deep, and with as many objects, as they may be, and right nowhere."""
    return [
        deep(40), deep(40, list), deep(40, dict), deep(41), (deep(39),), (deep(38), 0), ((0, deep(38)),),
        ((0, 1), deep(39)), (deep(39), (2, 0)), (W, deep(39)),
        (None,) * 9999, ((),) * 9999, (W,) * 9999, (True,) * 9999, (-1,) * 9999, ([],) * 9999, "x" * 10000, b"x" * 10000,
        [0] * 9999, list(range(9999)), dict.fromkeys(range(4999), 0), ((0, 0),) * 3333, ((0, 1, 0),) * 2499,
        tuple(range(9999))[::-1], tuple((k, k) for k in range(1, 3333)), (0, 1, 2) * 3333, ((0, 0, 0),) * 2499,
    ]


class JudgedThingsTest(Case):
    def test_0_3_the_right_calls_are_answered(self):
        for function, passed_on, judged in CALLS:
            answer = function(*passed_on)
            if None in judged.values():
                self.assertIs(answer, True, function.__name__)

    def test_0_3_things_as_deep_and_as_large_as_they_may_be(self):
        things = largest_things()
        for function, right, judged in CALLS:
            for at, error in judged.items():
                for thing in things:
                    given = right[:at] + (thing,) + right[at + 1:]
                    if error is None:
                        self.judges(False, function, *given)
                    else:
                        self.refuses(error, function, *given)

    def test_0_2_a_flag_is_no_integer(self):
        for function, right, judged in CALLS:
            for at, error in judged.items():
                for given in flagged(right[at]):
                    if error is None:
                        self.judges(False, function, *right[:at], given, *right[at + 1:])
                    else:
                        self.refuses(error, function, *right[:at], given, *right[at + 1:])

    def test_0_2_a_list_is_no_tuple(self):
        for function, right, judged in CALLS:
            for at, error in judged.items():
                for given in listed(right[at]):
                    if error is None:
                        self.judges(False, function, *right[:at], given, *right[at + 1:])
                    else:
                        self.refuses(error, function, *right[:at], given, *right[at + 1:])

    def test_0_3_the_first_error_that_is_named_is_raised(self):
        for function, right, judged in CALLS:
            places = sorted(at for at in judged if judged[at] is not None)
            for count, first in enumerate(places):
                given = list(right)
                for at in places[count:]:
                    given[at] = None
                self.refuses(judged[first], function, *given)


def flagged(right):
    """A right thing with a flag in the place of one integer of 0 or 1."""
    if isinstance(right, tuple):
        return [right[:at] + (part,) + right[at + 1:] for at in range(len(right)) for part in flagged(right[at])]
    return [bool(right)] if right in (0, 1) else [True, False]


def listed(right):
    """A right thing with a list in the place of one tuple."""
    if not isinstance(right, tuple):
        return []
    deeper = [right[:at] + (part,) + right[at + 1:] for at in range(len(right)) for part in listed(right[at])]
    return [list(right)] + deeper


def written(arguments):
    """What arguments are, to the last thing inside them."""
    return repr([(part.many, part.spills) if isinstance(part, Log) else part for part in arguments])


class AnswersTest(Case):
    def test_0_4_equal_calls_give_equal_answers_and_change_nothing(self):
        for function, right, _ in CALLS:
            before = written(right)
            first = function(*right)
            again = function(*[Log(3, ((0, 1, 0), (1, 2, 1))) if part is W else part for part in right])
            self.assertEqual(first, again, function.__name__)
            self.assertIs(type(first), type(again))
            self.assertEqual(written(right), before)

    def test_0_4_arguments_are_passed_by_position_and_lists_are_new(self):
        for function, right, _ in CALLS:
            first = function(*right)
            if isinstance(first, list):
                kept = list(first)
                self.assertIsNot(function(*right), first)
                first.clear()
                self.assertEqual(function(*right), kept)

    def test_0_4_the_kinds_of_the_answers(self):
        kinds = {
            Log: (Log, behind, backward, mirrored, by_hands, without, bare, steps_for),
            tuple: (
                hands, inverse, end, touched, sorted_back, history_for, utmost, walk, prices, prices_behind, prices_again,
                least_arrangement, history_of, places_for, vials_for, sure, true_lot, loads, deep_claims, needless, stretch,
                fewest_spills, least_seen, history_seen, least_crated, history_crated, either, least_beyond, least_ahead,
                history_beyond, history_ahead, must_hands, must_spills, fewest_mixed, cleared,
            ),
            list: (rows, trail, left_pairs, needed, apart, all_seen, least_hands, helpers, helpers_at),
            int: (
                many_histories, passing, price, least_price, times_still, passed, most_true, depth, depth_for_all,
                inversions, many_seen, many_crated, many_either,
            ),
            bool: (
                is_arrangement, is_history, can_come, is_below, is_walk, is_claims, can_be, is_bar, below_by, is_deep,
                stands_at, alike, never_more, same_alone, can_be_seen, is_bar_seen, can_be_crated, is_bar_crated,
                can_be_beyond, can_be_ahead, enough_hands,
            ),
            str: (word, left_word),
            type(None): (bar, least_barred, deep_arrangement, shape_in, parting, bar_seen, bar_crated),
        }
        asked = {function: kind for kind, functions in kinds.items() for function in functions}
        self.assertEqual(len(asked), len(CALLS))
        for function, right, _ in CALLS:
            self.assertIs(type(function(*right)), asked[function], function.__name__)
        self.assertIs(type(led(W, lambda number, vials: vials)), tuple)
        self.assertIs(type(bar(W, ((0, 1), (1, 2)))), tuple)
        self.assertIs(type(least_barred(W, ((0, 1), (1, 2)))), tuple)
        turned = steps_for(FOUR, SHAPE)
        self.assertIs(type(shape_in(turned)), tuple)
        self.assertIs(type(deep_arrangement(turned, 1)), tuple)
        self.assertIs(type(parting(W, Log(3, ()))), tuple)
        self.assertIs(type(bar_seen(W, COLOURS, NEVER_SEEN)), tuple)
        self.assertIs(type(bar_crated(W, SIZES, NEVER_CRATED)), tuple)

    def test_0_5_numbers_of_forty_figures(self):
        for number in (10 ** 39, 10 ** 40 - 1, -10 ** 39):
            self.refuses(errors.NoVial, trail, W, HISTORY, number)
            self.refuses(errors.NoCut, least_price, W, number, 0)
            self.refuses(errors.NoNumber, prices_again, W, number)
            self.refuses(errors.BadLog, Log, number, (), part="many")
            self.refuses(errors.BadLog, Log, 3, ((0, number, 0),), part="spills")
        large = ((10 ** 40 - 1, 10 ** 39), (0, 10 ** 40 - 1))
        self.assertEqual(prices_behind(large, large), ((10 ** 39, 11 * 10 ** 39 - 1), (10 ** 40 - 1, 10 ** 39)))

    def test_1_1_a_returned_log_is_a_log_for_every_function(self):
        long = W
        for _ in range(59):
            long = behind(long, W)
        self.assertEqual(long.spills, W.spills * 60)
        all_rows = [(0, 1, 2), (0, 2, 1), (1, 0, 2), (1, 2, 0), (2, 0, 1), (2, 1, 0)]
        turned = ((0, 2), (1, 1), (2, 0))
        self.assertEqual(hands(long), (0, 1))
        self.assertEqual(backward(long).spills, W.spills[::-1] * 60)
        self.assertEqual(mirrored(long).spills, mirrored(W).spills * 60)
        self.assertEqual(by_hands(long, (1,)).spills, ((1, 2, 1),) * 60)
        self.assertEqual(len(without(long, (3, 119)).spills), 118)
        self.refuses(errors.NoLot, without, long, (3, 120))
        self.assertEqual(inverse(long, (1, 2, 0)), (2, 0, 1))
        history = led(long, lambda number, vials: vials[::-1])
        self.assertIs(is_history(long, history), True)
        self.assertEqual(len(rows(long, history)), 121)
        self.assertEqual(len(trail(long, history, 0)), 121)
        self.assertEqual(touched(long, history), tuple(range(120)))
        self.assertEqual(many_histories(long), 2 ** 120)
        for row in all_rows:
            self.assertIs(can_come(long, row), True)
            self.assertEqual(end(long, history_for(long, row)), row)
            self.assertEqual(sorted_back(long, row), (0, 1, 2))
            self.assertIs(is_below(long, row, utmost(long)), True)
        self.assertEqual(passing(long, utmost(long), 1, 1), 1)
        cuts = walk(long, 1, 1)
        self.assertIs(is_walk(long, cuts), True)
        self.assertEqual((len(cuts), price(long, cuts), least_price(long, 1, 1)), (122, 1, 1))
        self.assertEqual(prices(long), prices_again(W, 60))
        self.assertEqual(prices_again(long, 10 ** 30), prices(long))
        self.assertEqual(times_still(long), 1)
        self.assertIs(can_be(long, turned), True)
        self.assertEqual(end(long, history_of(long, turned)), (2, 1, 0))
        self.assertIsNone(bar(long, turned))
        self.assertIs(is_bar(long, turned, cuts), False)
        self.assertIs(is_bar(long, turned, (0,) + cuts[1:]), False)
        self.assertEqual(passed(long, turned, 1, 1), 1)
        self.assertEqual(least_arrangement(long, turned), (2, 1, 0))
        self.assertEqual(word(long, ((0, 2),), 1, 1), "open")
        self.assertEqual(places_for(long, (), 0), (0, 1, 2))
        self.assertEqual(vials_for(long, ((0, 2),), 0), (1, 2))
        self.assertEqual(sure(long, ((0, 2), (1, 1))), turned)
        self.assertIsNone(least_barred(long, turned))
        self.assertEqual((most_true(long, turned), true_lot(long, turned)), (3, turned))
        self.assertEqual(left_word(long, (), 0, 2), "open")
        self.assertEqual(left_pairs(long, ((0, 2),)), [(1, 0), (2, 0)])

    def test_0_5_what_was_returned_may_be_passed_on(self):
        log = big_log(11, spills=40, widest=5)
        twice = behind(log, log)
        longer = behind(behind(twice, twice), twice)
        self.assertGreater(len(longer.spills), 200)
        history = led(longer, lambda number, vials: vials[::-1])
        self.assertTrue(is_history(longer, history))
        self.assertTrue(can_come(longer, rows(longer, history)[-1]))
        self.assertTrue(is_walk(longer, walk(longer, 20, 20)))
        table = prices_behind(prices(longer), prices(longer))
        self.assertEqual(prices_behind(table, table), prices_again(longer, 4))


if __name__ == "__main__":
    unittest.main()
