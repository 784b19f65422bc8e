"""Right calls of all functions and methods of the interface, and what is said of wrong arguments of theirs."""

from tests.support import W
from walkingcut import errors
from walkingcut.again import prices_again, prices_behind, times_still
from walkingcut.among import bar_among, is_bar_among, most_among, ways_among
from walkingcut.audits import Audit
from walkingcut.bounds import (
    can_be_ahead, can_be_beyond, history_ahead, history_beyond, least_ahead, least_beyond,
)
from walkingcut.chances import chance, chances, likeliest, many_ways
from walkingcut.choosing import either, many_either
from walkingcut.claims import bar, can_be, history_of, is_bar, is_claims, least_arrangement, passed
from walkingcut.colours import all_seen, bar_seen, can_be_seen, history_seen, is_bar_seen, least_seen, many_seen
from walkingcut.comparing import alike, apart, bare, needless, never_more, parting, same_alone, stretch
from walkingcut.counting import (
    all_arrangements, arrangement_at, arrangement_number, many_arrangements, many_with, next_one,
)
from walkingcut.crates import (
    bar_crated, can_be_crated, history_crated, is_bar_crated, least_crated, many_crated,
)
from walkingcut.cuts import is_walk, least_price, price, prices, walk
from walkingcut.depths import (
    below_by, deep_arrangement, deep_claims, depth, depth_for_all, is_deep, loads, needed,
)
from walkingcut.desk import Desk
from walkingcut.hands import cleared, enough_hands, fewest_mixed, least_hands, must_hands, must_spills
from walkingcut.helping import helpers, helpers_at
from walkingcut.histories import end, is_history, many_histories, rows, touched, trail
from walkingcut.logs import Log, backward, behind, by_hands, hands, inverse, is_arrangement, mirrored, without
from walkingcut.looking import is_look_tree, look_tree, looks, sure_lot
from walkingcut.making import fewest_spills, inversions, steps_for
from walkingcut.mixings import Mixing, as_mixing
from walkingcut.notes import are_right, first_wrong, history_noted, noted_places
from walkingcut.ordering import left_pairs, left_word
from walkingcut.reading import read_claims, read_history, read_log
from walkingcut.shapes import shape_in, stands_at
from walkingcut.sorting import can_come, history_for, sorted_back
from walkingcut.telling import least_barred, most_true, places_for, sure, true_lot, vials_for, word
from walkingcut.texts import claims_text, history_text, log_text
from walkingcut.utmosts import is_below, passing, utmost
from walkingcut.witnesses import agree, agreeing, filling, fillings

ROW = (1, 2, 0)
HISTORY = ((1, 0), (2, 0))
CLAIMS = ((0, 1), (2, 2))
SQUARE = ((0, 0), (1, 0))
BARRED = ((0, 1), (1, 2))
COLOURS, SEEN, NEVER_SEEN = (0, 0, 1), (0, 1, 0), (1, 0, 0)
FOUR = Log(4, ((0, 1, 0),))
SHAPE = (3, 1, 2, 0)
SIZES, CRATED, NEVER_CRATED = (1, 2), ((1,), (0, 2)), ((2,), (0, 1))
CHOICES = ((0, (0, 1)), (2, (1, 2)))
BOUNDS = (1, 0, 0)
NOTES = ((0, (0, 1, 2)), (2, (1, 2, 0)))
LOTS = ((0, 2), (1, 2))
M = Mixing(3, LOTS)
TEXT = "rack 3\nspill 0 1 0\nspill 1 2 1\n"


def told_by(audit):
    return audit.log().spills, audit.claims(), audit.depth()


def audit_made(log):
    return told_by(Audit(log))


def audit_claim(log, vial, place):
    audit = Audit(log)
    assert audit.claim(vial, place) is None
    return told_by(audit)


def audit_drop(log, vial):
    audit = Audit(log)
    audit.claim(1, 0)
    assert audit.drop(vial) is None
    return told_by(audit)


def audit_spill(log, first, last, hand):
    audit = Audit(log)
    assert audit.spill(first, last, hand) is None
    return told_by(audit)


def audit_places(log, vial):
    return Audit(log).places(vial)


def audit_vials(log, place):
    return Audit(log).vials(place)


def audit_try_claim(log, vial, place):
    return Audit(log).try_claim(vial, place)


def desk_tell(line):
    return Desk().tell(line)


# Each function, arguments that are right, and for each place of an argument that is judged the error that is named
# for it, or None if the function tells False of it.
CALLS = [
    (Log, (3, W.spills), {0: errors.BadLog, 1: errors.BadLog}), (hands, (W,), {}), (behind, (W, W), {}),
    (backward, (W,), {}), (mirrored, (W,), {}), (by_hands, (W, (0,)), {1: errors.NoLot}),
    (without, (W, (0,)), {1: errors.NoLot}), (is_arrangement, (W, ROW), {1: None}),
    (inverse, (W, ROW), {1: errors.NoArrangement}), (is_history, (W, HISTORY), {1: None}),
    (end, (W, HISTORY), {1: errors.NoHistory}), (rows, (W, HISTORY), {1: errors.NoHistory}),
    (trail, (W, HISTORY, 0), {1: errors.NoHistory, 2: errors.NoVial}), (many_histories, (W,), {}),
    (touched, (W, HISTORY), {}), (sorted_back, (W, ROW), {1: errors.NoArrangement}),
    (can_come, (W, ROW), {1: errors.NoArrangement}), (history_for, (W, ROW), {1: errors.NoArrangement}),
    (utmost, (W,), {}), (passing, (W, ROW, 1, 1), {1: errors.NoArrangement, 2: errors.NoCut, 3: errors.NoCut}),
    (is_below, (W, ROW, ROW), {1: errors.NoArrangement, 2: None}), (is_walk, (W, (2, 2, 1, 1)), {1: None}),
    (price, (W, (2, 2, 1, 1)), {1: errors.NoWalk}), (least_price, (W, 2, 1), {1: errors.NoCut, 2: errors.NoCut}),
    (walk, (W, 2, 1), {1: errors.NoCut, 2: errors.NoCut}), (prices, (W,), {}),
    (prices_behind, (SQUARE, SQUARE), {0: errors.NoPrices, 1: errors.NoPrices}),
    (prices_again, (W, 2), {1: errors.NoNumber}), (times_still, (W,), {}), (is_claims, (W, CLAIMS), {1: None}),
    (least_arrangement, (W, CLAIMS), {1: errors.NoClaims}), (can_be, (W, CLAIMS), {1: errors.NoClaims}),
    (history_of, (W, CLAIMS), {1: errors.NoClaims}),
    (passed, (W, CLAIMS, 1, 1), {1: errors.NoClaims, 2: errors.NoCut, 3: errors.NoCut}),
    (bar, (W, CLAIMS), {1: errors.NoClaims}),
    (is_bar, (W, ((0, 1), (1, 2)), (2, 2, 1, 1)), {1: errors.NoClaims, 2: None}),
    (word, (W, CLAIMS, 1, 0), {1: errors.NoClaims, 2: errors.NoVial, 3: errors.NoPlace}),
    (places_for, (W, CLAIMS, 1), {1: errors.NoClaims, 2: errors.NoVial}),
    (vials_for, (W, CLAIMS, 1), {1: errors.NoClaims, 2: errors.NoPlace}), (sure, (W, CLAIMS), {1: errors.NoClaims}),
    (least_barred, (W, CLAIMS), {1: errors.NoClaims}), (most_true, (W, CLAIMS), {1: errors.NoClaims}),
    (true_lot, (W, CLAIMS), {1: errors.NoClaims}),
    (left_word, (W, CLAIMS, 0, 1), {1: errors.NoClaims, 2: errors.NoVial, 3: errors.NoVial}),
    (left_pairs, (W, CLAIMS), {1: errors.NoClaims}), (needed, (W,), {}),
    (loads, (W, 2, 1), {1: errors.NoCut, 2: errors.NoCut}), (below_by, (W, ROW), {1: errors.NoArrangement}),
    (depth, (W,), {}), (depth_for_all, (W,), {}), (deep_claims, (W, 1), {1: errors.NoNumber}),
    (deep_arrangement, (W, 1), {1: errors.NoNumber}), (is_deep, (W, 1, BARRED), {1: errors.NoNumber, 2: None}),
    (shape_in, (W,), {}),
    (stands_at, (FOUR, SHAPE, 0, (0, 1, 2, 3)), {1: errors.NoArrangement, 2: errors.NoNumber, 3: None}),
    (alike, (W, W), {}), (never_more, (W, W), {}), (parting, (W, W), {}), (same_alone, (W, W), {}),
    (needless, (W,), {}), (bare, (W,), {}), (stretch, (W, 1), {1: errors.NoVial}), (apart, (W,), {}),
    (steps_for, (W, ROW), {1: errors.NoArrangement}), (fewest_spills, (W, ROW), {1: errors.NoArrangement}),
    (inversions, (W, ROW), {1: errors.NoArrangement}),
    (can_be_seen, (W, COLOURS, SEEN), {1: errors.NoColours, 2: errors.NoSeen}),
    (least_seen, (W, COLOURS, SEEN), {1: errors.NoColours, 2: errors.NoSeen}),
    (history_seen, (W, COLOURS, SEEN), {1: errors.NoColours, 2: errors.NoSeen}),
    (bar_seen, (W, COLOURS, SEEN), {1: errors.NoColours, 2: errors.NoSeen}),
    (is_bar_seen, (W, COLOURS, NEVER_SEEN, (2, 2, 1, 1)), {1: errors.NoColours, 2: errors.NoSeen, 3: None}),
    (many_seen, (W, COLOURS), {1: errors.NoColours}), (all_seen, (W, COLOURS), {1: errors.NoColours}),
    (can_be_crated, (W, SIZES, CRATED), {1: errors.NoSizes, 2: errors.NoCrated}),
    (least_crated, (W, SIZES, CRATED), {1: errors.NoSizes, 2: errors.NoCrated}),
    (history_crated, (W, SIZES, CRATED), {1: errors.NoSizes, 2: errors.NoCrated}),
    (bar_crated, (W, SIZES, CRATED), {1: errors.NoSizes, 2: errors.NoCrated}),
    (is_bar_crated, (W, SIZES, NEVER_CRATED, (2, 2, 1, 1)), {1: errors.NoSizes, 2: errors.NoCrated, 3: None}),
    (many_crated, (W, SIZES), {1: errors.NoSizes}), (either, (W, CHOICES), {1: errors.NoChoices}),
    (many_either, (W, CHOICES), {1: errors.NoChoices}), (least_beyond, (W, BOUNDS), {1: errors.NoBounds}),
    (least_ahead, (W, (1, 1, 2)), {1: errors.NoBounds}), (can_be_beyond, (W, BOUNDS), {1: errors.NoBounds}),
    (can_be_ahead, (W, (1, 1, 2)), {1: errors.NoBounds}), (history_beyond, (W, BOUNDS), {1: errors.NoBounds}),
    (history_ahead, (W, (1, 1, 2)), {1: errors.NoBounds}),
    (enough_hands, (W, CLAIMS, (0, 1)), {1: errors.NoClaims, 2: errors.NoLot}),
    (must_hands, (W, CLAIMS), {1: errors.NoClaims}), (least_hands, (W, CLAIMS), {1: errors.NoClaims}),
    (must_spills, (W, CLAIMS), {1: errors.NoClaims}), (fewest_mixed, (W, CLAIMS), {1: errors.NoClaims}),
    (cleared, (W, CLAIMS, 1), {1: errors.NoClaims, 2: errors.NoHand}), (helpers, (W, CLAIMS), {1: errors.NoClaims}),
    (helpers_at, (W, CLAIMS, 1), {1: errors.NoClaims, 2: errors.NoNumber}),
    (agree, (W, W, ROW, (0, 2, 1)), {2: errors.NoArrangement, 3: errors.NoArrangement}),
    (filling, (W, W, ROW, (0, 2, 1)), {2: errors.NoArrangement, 3: errors.NoArrangement}), (agreeing, (W, W), {}),
    (fillings, (W, ROW), {1: errors.NoArrangement}), (are_right, (W, NOTES), {1: errors.NoNotes}),
    (history_noted, (W, NOTES), {1: errors.NoNotes}), (first_wrong, (W, NOTES), {1: errors.NoNotes}),
    (noted_places, (W, NOTES, 1), {1: errors.NoNotes, 2: errors.NoVial}), (looks, (W,), {}), (look_tree, (W,), {}),
    (sure_lot, (W,), {}), (is_look_tree, (W, look_tree(W)), {1: None}), (many_arrangements, (W,), {}),
    (arrangement_number, (W, ROW), {1: errors.NoArrangement}), (many_with, (W, CLAIMS), {1: errors.NoClaims}),
    (arrangement_at, (W, 3), {1: errors.NoNumber}), (all_arrangements, (W,), {}),
    (next_one, (W, (0, 2, 1)), {1: errors.NoArrangement}), (many_ways, (W, ROW), {1: errors.NoArrangement}),
    (chance, (W, CLAIMS), {1: errors.NoClaims}), (chances, (W, 1), {1: errors.NoVial}), (likeliest, (W,), {}),
    (Mixing, (3, LOTS), {0: errors.BadMixing, 1: errors.BadMixing}), (as_mixing, (W,), {}),
    (most_among, (M, (0, 1), (1,)), {1: errors.NoVials, 2: errors.NoPlaces}),
    (ways_among, (M, (0, 1), (1,)), {1: errors.NoVials, 2: errors.NoPlaces}),
    (bar_among, (M, (0, 1), (1,)), {1: errors.NoVials, 2: errors.NoPlaces}),
    (is_bar_among, (M, (0, 1), (1,), ((2, 1),)), {1: errors.NoVials, 2: errors.NoPlaces, 3: None}),
    (audit_made, (W,), {}), (audit_claim, (W, 0, 1), {1: errors.NoVial, 2: errors.NoPlace}),
    (audit_drop, (W, 1), {1: errors.NoVial}),
    (audit_spill, (W, 0, 1, 1), {1: errors.NoSpill, 2: errors.NoSpill, 3: errors.NoSpill}),
    (audit_places, (W, 1), {1: errors.NoVial}), (audit_vials, (W, 1), {1: errors.NoPlace}),
    (audit_try_claim, (W, 2, 0), {1: errors.NoVial, 2: errors.NoPlace}), (log_text, (W,), {}),
    (claims_text, (W, CLAIMS), {1: errors.NoClaims}), (history_text, (W, HISTORY), {1: errors.NoHistory}),
    (read_log, (TEXT,), {0: errors.BadText}), (read_claims, (W, "claim 0 1\n"), {1: errors.BadText}),
    (read_history, (W, "row 1 0\nrow 2 0\n"), {1: errors.BadText}), (desk_tell, ("log w rack 3|",), {0: errors.NoLine}),
]

# Functions that take any texts, so that other strings are wrong in other ways, or right.
OF_TEXTS = (read_log, read_claims, read_history, desk_tell)

# What kind each answer to these calls is.
KINDS = {
    Log: (Log, behind, backward, mirrored, by_hands, without, bare, steps_for, agreeing, read_log),
    Mixing: (Mixing, as_mixing),
    tuple: (
        hands, inverse, end, touched, sorted_back, history_for, utmost, walk, prices, prices_behind, prices_again,
        least_arrangement, history_of, places_for, vials_for, sure, true_lot, loads, deep_claims, needless, stretch,
        fewest_spills, least_seen, history_seen, least_crated, history_crated, either, least_beyond, least_ahead,
        history_beyond, history_ahead, must_hands, must_spills, fewest_mixed, cleared, filling, history_noted,
        noted_places, look_tree, sure_lot, arrangement_at, next_one, chance, chances, likeliest, bar_among, audit_made,
        audit_claim, audit_drop, audit_spill, audit_places, audit_vials, audit_try_claim, read_claims, read_history,
    ),
    list: (
        rows, trail, left_pairs, needed, apart, all_seen, least_hands, helpers, helpers_at, all_arrangements,
        ways_among,
    ),
    int: (
        many_histories, passing, price, least_price, times_still, passed, most_true, depth, depth_for_all, inversions,
        many_seen, many_crated, many_either, fillings, looks, many_arrangements, arrangement_number, many_with,
        many_ways, most_among,
    ),
    bool: (
        is_arrangement, is_history, can_come, is_below, is_walk, is_claims, can_be, is_bar, below_by, is_deep,
        stands_at, alike, never_more, same_alone, can_be_seen, is_bar_seen, can_be_crated, is_bar_crated, can_be_beyond,
        can_be_ahead, enough_hands, agree, are_right, is_look_tree, is_bar_among,
    ),
    str: (word, left_word, log_text, claims_text, history_text, desk_tell),
    type(None): (bar, least_barred, deep_arrangement, shape_in, parting, bar_seen, bar_crated, first_wrong),
}
