"""The examples e01 to e15 of the document."""

import unittest

from walkingcut.chances import chance
from walkingcut.claims import can_be, is_bar
from walkingcut.colours import can_be_seen
from walkingcut.comparing import needless, stretch
from walkingcut.counting import arrangement_at, many_arrangements
from walkingcut.cuts import least_price, price
from walkingcut.depths import depth, depth_for_all, needed
from walkingcut.hands import must_hands
from walkingcut.histories import end
from walkingcut.logs import Log, mirrored
from walkingcut.sorting import can_come, sorted_back
from walkingcut.telling import places_for, word
from walkingcut.texts import log_text
from walkingcut.utmosts import utmost


class ExamplesTest(unittest.TestCase):
    def setUp(self):
        self.w = Log(3, ((0, 1, 0), (1, 2, 1)))

    def test_e01(self):
        self.assertEqual(mirrored(self.w).spills, ((1, 2, 0), (0, 1, 1)))

    def test_e02(self):
        self.assertEqual(end(self.w, ((1, 0), (2, 0))), (1, 2, 0))

    def test_e03(self):
        self.assertEqual(sorted_back(self.w, (2, 1, 0)), (0, 2, 1))
        self.assertIs(can_come(self.w, (1, 2, 0)), True)

    def test_e04(self):
        self.assertEqual(utmost(self.w), (1, 2, 0))

    def test_e05(self):
        self.assertEqual(least_price(self.w, 2, 1), 1)
        self.assertEqual(price(self.w, (2, 2, 1, 1)), 1)

    def test_e06(self):
        self.assertIs(can_be(self.w, ((0, 1), (1, 2))), False)
        self.assertIs(is_bar(self.w, ((0, 1), (1, 2)), (2, 2, 1, 1)), True)

    def test_e07(self):
        self.assertEqual(places_for(self.w, ((2, 1),), 0), (0, 2))
        self.assertEqual(word(self.w, ((1, 0),), 2, 0), "never")

    def test_e08(self):
        self.assertEqual(needed(self.w), [(2, 1)])
        self.assertEqual((depth(self.w), depth_for_all(self.w)), (2, 1))

    def test_e09(self):
        self.assertEqual(needless(Log(3, ((0, 1, 0), (0, 2, 1), (1, 2, 0)))), (0, 2))

    def test_e10(self):
        self.assertEqual(stretch(self.w, 2), (1, 2))

    def test_e11(self):
        self.assertIs(can_be_seen(self.w, (0, 0, 1), (1, 0, 0)), False)

    def test_e12(self):
        self.assertEqual(must_hands(self.w, ((0, 2),)), (0, 1))

    def test_e13(self):
        self.assertEqual((many_arrangements(self.w), arrangement_at(self.w, 3)), (4, (1, 2, 0)))

    def test_e14(self):
        self.assertEqual(chance(self.w, ((0, 2),)), (1, 4))

    def test_e15(self):
        self.assertEqual(log_text(self.w), "rack 3\nspill 0 1 0\nspill 1 2 1\n")


if __name__ == "__main__":
    unittest.main()
