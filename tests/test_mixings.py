"""Point 13.1."""

import unittest

from tests.support import Case, W, big_log, deep, small_logs, spoiled
from walkingcut import errors
from walkingcut.logs import Log, behind
from walkingcut.mixings import Mixing, as_mixing

LOTS = ((0, 2), (0, 1, 2))


class MixingTest(Case):
    def test_13_1_what_mixings_are(self):
        for many, lots in (
            (1, ()), (2, ()), (2, ((0, 1),)), (3, LOTS), (20, ()), (20, (tuple(range(20)),)), (20, ((0, 19),) * 40),
            (20, tuple((place, place + 1) for place in range(19))), (5, ((0, 2, 4), (1, 3), (0, 2, 4))),
        ):
            mixing = Mixing(many, lots)
            self.assertEqual((mixing.many, mixing.lots), (many, lots))
            self.assertIs(type(mixing.many), int)
            self.assertIs(type(mixing.lots), tuple)

    def test_13_1_wrong_many(self):
        wrong = [thing for thing in spoiled(0) if type(thing) is not int] + [0, -1, 21, 22, 10 ** 39, True, False]
        for many in wrong:
            self.refuses(errors.BadMixing, Mixing, many, (), part="many")
            self.refuses(errors.BadMixing, Mixing, many, LOTS, part="many")
            self.refuses(errors.BadMixing, Mixing, many, None, part="many")

    def test_13_1_wrong_lots(self):
        wrong = [
            ((0,),), ((),), ((2, 0),), ((0, 0),), ((0, 1, 1),), ((0, 3),), ((-1, 0),), ((False, 1),), ((0, True),),
            ([0, 1],), [(0, 1)], ((0, 1), None), ((0, 1), (2,)), (0, 1), ((0, 1), ((0, 1),)), (range(2),), ("01",),
            "01", {0: 1}, {(0, 1): 0}, ((0, 10 ** 39),), (deep(38),), ((0, 1), deep(39)), None, 0, [], {},
            ((0, 1),) * 41, ((0, 2),) * 3000,
        ]
        for lots in wrong:
            self.refuses(errors.BadMixing, Mixing, 3, lots, part="lots")
        for lots in spoiled(LOTS):
            # The empty tuple is one of the things put in the place of all lots.
            if repr(lots) != "()":
                self.refuses(errors.BadMixing, Mixing, 3, lots, part="lots")
        self.refuses(errors.BadMixing, Mixing, 1, ((0, 1),), part="lots")
        self.refuses(errors.BadMixing, Mixing, 20, ((0, 20),), part="lots")

    def test_13_1_forty_lots_and_forty_one(self):
        self.assertEqual(len(Mixing(3, ((0, 2),) * 40).lots), 40)
        self.refuses(errors.BadMixing, Mixing, 3, ((0, 2),) * 41, part="lots")

    def test_13_1_equal_just_if_both_are(self):
        mixings = [Mixing(3, ()), Mixing(2, ()), Mixing(4, LOTS)]
        mixings += [Mixing(3, LOTS), Mixing(3, LOTS[:1]), Mixing(3, LOTS[::-1])]
        for at, one in enumerate(mixings):
            for other_at, other in enumerate(mixings):
                self.assertIs(one == other, at == other_at)
        self.assertTrue(Mixing(3, LOTS) == Mixing(3, ((0, 2), (0, 1, 2))))
        self.assertFalse(Mixing(3, LOTS) != Mixing(3, ((0, 2), (0, 1, 2))))
        for other in (LOTS, (3, LOTS), 3, None, Log(3, ()), W, [3, LOTS], "Mixing", errors.BadMixing("lots")):
            self.assertFalse(Mixing(3, LOTS) == other)
            self.assertFalse(other == Mixing(3, LOTS))
            self.assertTrue(Mixing(3, LOTS) != other)
        self.assertFalse(Mixing(3, ()) == Log(3, ()))

    def test_13_1_as_mixing(self):
        self.assertEqual(as_mixing(W), Mixing(3, ((0, 1), (1, 2))))
        self.assertEqual(as_mixing(Log(1, ())), Mixing(1, ()))
        self.assertEqual(as_mixing(Log(20, ((0, 19, 3), (4, 6, 0)))), Mixing(20, (tuple(range(20)), (4, 5, 6))))
        for log in small_logs(4, 3):
            lots = tuple(tuple(range(first, last + 1)) for first, last, _ in log.spills)
            self.assertEqual(as_mixing(log), Mixing(log.many, lots))

    def test_13_1_twenty_places_and_forty_spills_and_more(self):
        self.assertEqual(len(as_mixing(big_log(1, 20, 40)).lots), 40)
        for log in (Log(21, ()), Log(40, ()), big_log(1, 21, 41), big_log(1, 40, 100)):
            self.refuses(errors.TooMany, as_mixing, log, most=20)
        twice = behind(big_log(1, 20, 100), big_log(2, 20, 100))
        for log in (big_log(1, 20, 41), big_log(1, 20, 100), Log(2, ((0, 1, 0),) * 41), twice):
            self.refuses(errors.TooMany, as_mixing, log, most=40)


if __name__ == "__main__":
    unittest.main()
