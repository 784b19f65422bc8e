"""Point 15.1."""

import random
import unittest

from tests.support import (
    Case, W, all_claims, all_histories, big_log, big_logs, some_small_logs, spoiled,
)
from tests.test_claims import WRONG as WRONG_CLAIMS
from walkingcut import errors
from walkingcut.histories import led
from walkingcut.logs import Log, behind
from walkingcut.reading import read_claims, read_history, read_log
from walkingcut.texts import claims_text, history_text, log_text


class TextsTest(Case):
    def test_15_1_log_text(self):
        self.assertEqual(log_text(W), "rack 3\nspill 0 1 0\nspill 1 2 1\n")
        self.assertEqual(log_text(Log(1, ())), "rack 1\n")
        self.assertEqual(log_text(Log(40, ())), "rack 40\n")
        self.assertEqual(log_text(Log(40, ((0, 39, 11), (10, 20, 10)))), "rack 40\nspill 0 39 11\nspill 10 20 10\n")
        hundred = log_text(Log(2, ((0, 1, 7),) * 100))
        self.assertEqual(hundred, "rack 2\n" + "spill 0 1 7\n" * 100)
        self.assertEqual(log_text(behind(read_log(hundred), read_log(hundred))), "rack 2\n" + "spill 0 1 7\n" * 200)

    def test_15_1_claims_text(self):
        self.assertEqual(claims_text(W, ()), "")
        self.assertEqual(claims_text(W, ((0, 2), (2, 0))), "claim 0 2\nclaim 2 0\n")
        self.assertEqual(claims_text(Log(40, ()), ((10, 39),)), "claim 10 39\n")

    def test_15_1_history_text(self):
        self.assertEqual(history_text(W, ((1, 0), (2, 0))), "row 1 0\nrow 2 0\n")
        self.assertEqual(history_text(Log(1, ()), ()), "")
        self.assertEqual(history_text(Log(11, ((7, 10, 0),)), ((10, 8, 7, 9),)), "row 10 8 7 9\n")

    def test_15_2_what_was_written_is_read(self):
        chance = random.Random(3)
        for log in some_small_logs() + big_logs() + [big_log(5)]:
            self.assertEqual(read_log(log_text(log)), log)
            history = led(log, lambda number, vials: tuple(chance.sample(vials, len(vials))))
            self.assertEqual(read_history(log, history_text(log, history)), history)
            vials = sorted(chance.sample(range(log.many), log.many // 2))
            claims = tuple(zip(vials, chance.sample(range(log.many), log.many)))
            self.assertEqual(read_claims(log, claims_text(log, claims)), claims)
        for claims in all_claims(3):
            self.assertEqual(read_claims(W, claims_text(W, claims)), claims)
        for history, _ in all_histories(W):
            self.assertEqual(read_history(W, history_text(W, history)), history)

    def test_15_1_refuses(self):
        for thing in WRONG_CLAIMS + spoiled(((0, 1), (2, 0))):
            self.refuses(errors.NoClaims, claims_text, W, thing)
        for thing in spoiled(((1, 0), (2, 0))):
            self.refuses(errors.NoHistory, history_text, W, thing)
        self.refuses(errors.NoHistory, history_text, W, ((1, 0), (2, 1)), number=1)
        self.refuses(errors.NoHistory, history_text, W, ((1, 2), (2, 1)), number=0)
        self.refuses(errors.NoHistory, history_text, W, ((1, 0),), number=-1)
        self.refuses(errors.NoHistory, history_text, W, ((True, 0), (2, 0)), number=0)


if __name__ == "__main__":
    unittest.main()
