"""Point 14.1."""

import random
import unittest

from tests.support import (
    Case, W, big_log, cheapest_rows, coming, has_all, is_a_walk, left_steps, number_passed, small_logs, spoiled,
)
from walkingcut import errors
from walkingcut.audits import Audit
from walkingcut.logs import Log, behind
from walkingcut.telling import places_for, sure, vials_for

NONE_OF_THREE = [thing for thing in spoiled(0) if type(thing) is not int] + [3, -1, 10 ** 39, True, False, "0"]


def state(audit):
    return audit.log().many, audit.log().spills, audit.claims(), audit.depth()


def trail_back(audit):
    """All that an audit goes back through, on a copy."""
    other, found = audit.copy(), []
    while other.depth():
        other.back()
        found.append(state(other))
    return found


class AuditCase(Case):
    def keeps(self, audit, error, function, *passed, **fields):
        """The error, and that nothing has changed."""
        before = state(audit), trail_back(audit)
        self.refuses(error, function, *passed, **fields)
        self.assertEqual((state(audit), trail_back(audit)), before)


class AuditTest(AuditCase):
    def test_14_1_at_first(self):
        for log in (Log(1, ()), W, Log(40, ()), big_log(1), behind(big_log(1), big_log(2))):
            audit = Audit(log)
            self.assertEqual(audit.log(), log)
            self.assertIs(type(audit.log()), Log)
            self.assertEqual(audit.claims(), ())
            self.assertEqual(audit.depth(), 0)
            self.keeps(audit, errors.NothingDone, audit.back)

    def test_14_1_claims(self):
        audit = Audit(W)
        self.assertIsNone(audit.claim(2, 2))
        self.assertEqual(audit.claims(), ((2, 2),))
        self.assertIsNone(audit.claim(0, 1))
        self.assertEqual(audit.claims(), ((0, 1), (2, 2)))
        self.assertIsNone(audit.claim(1, 0))
        self.assertEqual(audit.claims(), ((0, 1), (1, 0), (2, 2)))
        self.assertEqual(audit.depth(), 3)
        self.assertEqual(audit.log(), W)

    def test_14_1_claims_that_are_taken_or_barred(self):
        audit = Audit(W)
        audit.claim(0, 1)
        self.keeps(audit, errors.Taken, audit.claim, 0, 1)
        self.keeps(audit, errors.Taken, audit.claim, 0, 2)
        self.keeps(audit, errors.Taken, audit.claim, 2, 1)
        self.keeps(audit, errors.Barred, audit.claim, 1, 2)
        # What is taken is told ahead of what is barred.
        self.keeps(audit, errors.Taken, audit.claim, 2, 1)
        self.keeps(Audit(W), errors.Barred, Audit(W).claim, 2, 0)
        audit.claim(2, 2)
        self.keeps(audit, errors.Taken, audit.claim, 2, 0)

    def test_14_1_claims_of_no_vial_or_no_place(self):
        audit = Audit(W)
        audit.claim(0, 1)
        for thing in NONE_OF_THREE:
            for function in (audit.claim, audit.try_claim):
                self.keeps(audit, errors.NoVial, function, thing, 1)
                self.keeps(audit, errors.NoVial, function, thing, 3)
                self.keeps(audit, errors.NoVial, function, thing, thing)
                self.keeps(audit, errors.NoPlace, function, 0, thing)
                self.keeps(audit, errors.NoPlace, function, 2, thing)
            self.keeps(audit, errors.NoVial, audit.drop, thing)
            self.keeps(audit, errors.NoVial, audit.places, thing)
            self.keeps(audit, errors.NoPlace, audit.vials, thing)

    def test_14_1_drop(self):
        audit = Audit(W)
        self.keeps(audit, errors.NotClaimed, audit.drop, 0)
        audit.claim(0, 1)
        audit.claim(2, 2)
        self.keeps(audit, errors.NotClaimed, audit.drop, 1)
        self.assertIsNone(audit.drop(0))
        self.assertEqual(audit.claims(), ((2, 2),))
        self.assertEqual(audit.depth(), 3)
        self.keeps(audit, errors.NotClaimed, audit.drop, 0)
        audit.claim(0, 1)
        self.assertEqual(audit.claims(), ((0, 1), (2, 2)))

    def test_14_1_spill(self):
        audit = Audit(W)
        audit.claim(0, 2)
        self.assertIsNone(audit.spill(0, 2, 11))
        self.assertEqual(audit.log(), Log(3, W.spills + ((0, 2, 11),)))
        self.assertEqual(audit.claims(), ())
        self.assertEqual(audit.depth(), 2)
        self.assertEqual(W.spills, ((0, 1, 0), (1, 2, 1)))
        audit.claim(2, 0)
        self.assertEqual(audit.claims(), ((2, 0),))

    def test_14_1_what_no_spills_are(self):
        audit = Audit(W)
        audit.claim(0, 2)
        for first, last, hand in (
            (1, 1, 0), (2, 1, 0), (0, 3, 0), (-1, 1, 0), (0, 1, 12), (0, 1, -1), (False, 1, 0), (0, True, 0),
            (0, 1, True), (0, 1, False), (None, 1, 0), (0, None, 0), (0, 1, None), (0, 10 ** 39, 0),
        ):
            self.keeps(audit, errors.NoSpill, audit.spill, first, last, hand)
        for thing in [thing for thing in spoiled(0) if type(thing) is not int] + [-1, 10 ** 39]:
            self.keeps(audit, errors.NoSpill, audit.spill, thing, 1, 0)
            self.keeps(audit, errors.NoSpill, audit.spill, 0, thing, 0)
            self.keeps(audit, errors.NoSpill, audit.spill, 0, 1, thing)
        self.keeps(Audit(Log(1, ())), errors.NoSpill, Audit(Log(1, ())).spill, 0, 1, 0)

    def test_14_1_a_hundredth_spill_and_one_more(self):
        audit = Audit(Log(3, ((0, 1, 0),) * 98))
        audit.spill(1, 2, 0)
        audit.spill(1, 2, 0)
        self.assertEqual(len(audit.log().spills), 100)
        self.keeps(audit, errors.TooMany, audit.spill, 1, 2, 0, most=100)
        self.keeps(audit, errors.NoSpill, audit.spill, 2, 2, 0)
        audit.back()
        audit.spill(0, 2, 4)
        self.assertEqual(audit.log().spills[-1], (0, 2, 4))

    def test_14_1_a_returned_log_larger_than_a_constructed_one(self):
        large = behind(big_log(1, spills=80, widest=3), big_log(2, spills=80, widest=3))
        audit = Audit(large)
        self.keeps(audit, errors.TooMany, audit.spill, 1, 2, 0, most=100)
        self.keeps(audit, errors.NoSpill, audit.spill, 1, 1, 0)
        place = audit.places(7)[0]
        audit.claim(7, place)
        self.assertEqual(audit.claims(), ((7, place),))
        self.assertEqual(audit.log(), large)
        self.assertEqual(audit.sure(), sure(large, ((7, place),)))

    def test_14_1_the_kept_log_and_claims_of_an_audit_stay(self):
        audit = Audit(W)
        log, claims = audit.log(), audit.claims()
        audit.claim(0, 1)
        audit.spill(0, 2, 1)
        self.assertEqual((log, claims), (W, ()))

    def test_14_1_what_it_tells(self):
        for log in small_logs(3, 2) + small_logs(4, 2)[::5]:
            chance = random.Random(len(log.spills))
            audit, row = Audit(log), chance.choice(sorted(coming(log)))
            for place in chance.sample(range(log.many), log.many):
                audit.claim(row[place], place)
                rows = [other for other in coming(log) if has_all(other, audit.claims())]
                for vial in range(log.many):
                    self.assertEqual(audit.places(vial), tuple(sorted({other.index(vial) for other in rows})))
                    self.assertEqual(audit.vials(vial), tuple(sorted({other[vial] for other in rows})))
                    self.assertEqual(audit.places(vial), places_for(log, audit.claims(), vial))
                    self.assertEqual(audit.vials(vial), vials_for(log, audit.claims(), vial))
                fixed = tuple((vial, audit.places(vial)[0]) for vial in range(log.many) if len(audit.places(vial)) == 1)
                self.assertEqual(audit.sure(), fixed)
            self.assertEqual(audit.sure(), audit.claims())

    def test_14_1_try_claim(self):
        for log in small_logs(3, 2) + small_logs(4, 2)[::9]:
            table = cheapest_rows(log)
            for begun in [()] + [((row[0], 0),) for row in sorted(coming(log))]:
                audit = Audit(log)
                for vial, place in begun:
                    audit.claim(vial, place)
                for vial in range(log.many):
                    for place in range(log.many):
                        self.check_try(audit, table, vial, place)

    def check_try(self, audit, table, vial, place):
        before = state(audit)
        if any(vial == claimed or place == taken for claimed, taken in audit.claims()):
            self.refuses(errors.Taken, audit.try_claim, vial, place)
            self.refuses(errors.Taken, audit.claim, vial, place)
            return
        claims = tuple(sorted(audit.claims() + ((vial, place),)))
        found = audit.try_claim(vial, place)
        self.assertEqual(state(audit), before)
        if any(has_all(row, claims) for row in coming(audit.log())):
            self.assertIsNone(found)
            audit.claim(vial, place)
            self.assertEqual(audit.claims(), claims)
            audit.back()
        else:
            self.assertTrue(is_a_walk(audit.log(), found))
            self.assertGreater(number_passed(claims, found[0], found[-1]), left_steps(found))
            self.assertGreaterEqual(left_steps(found), table[found[0]][found[-1]])
            self.refuses(errors.Barred, audit.claim, vial, place)
        self.assertEqual(state(audit), before)


class BackTest(AuditCase):
    def test_14_1_back_behind_claim_drop_and_spill(self):
        audit = Audit(W)
        audit.claim(0, 1)
        audit.claim(2, 2)
        audit.drop(0)
        self.assertIsNone(audit.back())
        self.assertEqual(state(audit), (3, W.spills, ((0, 1), (2, 2)), 2))
        audit.spill(0, 2, 3)
        self.assertEqual(state(audit), (3, W.spills + ((0, 2, 3),), (), 3))
        audit.back()
        self.assertEqual(state(audit), (3, W.spills, ((0, 1), (2, 2)), 2))
        audit.back()
        self.assertEqual(state(audit), (3, W.spills, ((0, 1),), 1))
        audit.back()
        self.assertEqual(state(audit), (3, W.spills, (), 0))
        self.keeps(audit, errors.NothingDone, audit.back)

    def test_14_1_what_is_taken_back_does_not_come_again(self):
        audit = Audit(W)
        audit.claim(0, 1)
        audit.back()
        self.keeps(audit, errors.NothingDone, audit.back)
        audit.claim(0, 2)
        self.assertEqual(audit.depth(), 1)
        audit.back()
        self.assertEqual(state(audit), (3, W.spills, (), 0))

    def test_14_1_what_raises_cannot_be_taken_back(self):
        audit = Audit(W)
        audit.claim(0, 1)
        for function, passed in (
            (audit.claim, (1, 2)), (audit.drop, (2,)), (audit.spill, (1, 1, 0)), (audit.claim, (9, 9)),
        ):
            with self.assertRaises(errors.CutError):
                function(*passed)
        self.assertEqual(audit.depth(), 1)
        for function in (audit.log, audit.claims, audit.sure, audit.depth, audit.copy):
            function()
        audit.places(0), audit.vials(0), audit.try_claim(1, 0)
        self.assertEqual(audit.depth(), 1)

    def test_14_1_many_steps_and_back(self):
        chance = random.Random(7)
        audit, states = Audit(Log(5, ())), []
        for _ in range(300):
            before = state(audit)
            try:
                kind = chance.randrange(4)
                if kind == 0:
                    first = chance.randrange(4)
                    audit.spill(first, chance.randrange(first + 1, 5), chance.randrange(12))
                elif kind == 1:
                    audit.drop(chance.randrange(5))
                else:
                    audit.claim(chance.randrange(5), chance.randrange(5))
                states.append(before)
            except errors.CutError:
                self.assertEqual(state(audit), before)
            self.assertEqual(audit.depth(), len(states))
            if states and chance.random() < 0.3:
                audit.back()
                self.assertEqual(state(audit), states.pop())
        self.assertGreater(len(states), 20)
        while states:
            audit.back()
            self.assertEqual(state(audit), states.pop())

    def test_14_1_copies_go_on_apart(self):
        audit = Audit(W)
        audit.claim(0, 1)
        other = audit.copy()
        self.assertIs(type(other), Audit)
        self.assertIsNot(other, audit)
        self.assertEqual(state(other), state(audit))
        other.claim(2, 2)
        other.spill(0, 2, 0)
        self.assertEqual(state(audit), (3, W.spills, ((0, 1),), 1))
        audit.drop(0)
        self.assertEqual(state(other), (3, W.spills + ((0, 2, 0),), (), 3))
        other.back()
        self.assertEqual(other.claims(), ((0, 1), (2, 2)))
        other.back()
        other.back()
        self.assertEqual(state(other), (3, W.spills, (), 0))
        self.keeps(other, errors.NothingDone, other.back)
        self.assertEqual(state(audit), (3, W.spills, (), 2))
        audit.back()
        self.assertEqual(audit.claims(), ((0, 1),))
        third = audit.copy().copy()
        third.back()
        self.assertEqual((third.depth(), audit.depth()), (0, 1))

    def test_0_4_audits_are_equal_to_nothing_of_another_kind(self):
        audit = Audit(W)
        for other in (W, None, 0, (W, ()), "audit", [audit]):
            self.assertFalse(audit == other)
            self.assertFalse(other == audit)
        self.assertTrue(audit == audit)


class TryingTest(AuditCase):
    def audit(self):
        audit = Audit(W)
        audit.claim(0, 1)
        audit.claim(2, 2)
        audit.drop(2)
        return audit

    def test_14_1_an_action_that_returns(self):
        audit = self.audit()
        before = state(audit), trail_back(audit)

        def action(given):
            self.assertIs(given, audit)
            given.claim(2, 2)
            given.spill(0, 2, 0)
            given.claim(2, 0)
            return given.claims(), given.depth()

        self.assertEqual(audit.trying(action), (((2, 0),), 6))
        self.assertEqual((state(audit), trail_back(audit)), before)
        for told in (None, 0, [], W, "x"):
            self.assertIs(audit.trying(lambda given: told), told)

    def test_14_1_an_action_that_raises(self):
        audit = self.audit()
        before = state(audit), trail_back(audit)

        class Own(Exception):
            pass

        for error in (Own("x"), ValueError("y"), KeyError("k"), StopIteration(), errors.NoLot(), KeyboardInterrupt()):
            def action(given):
                given.spill(0, 1, 0)
                given.claim(0, 1)
                raise error

            with self.assertRaises(type(error)) as raised:
                audit.trying(action)
            self.assertIs(raised.exception, error)
            self.assertEqual((state(audit), trail_back(audit)), before)
        self.refuses(errors.Barred, audit.trying, lambda given: given.claim(1, 2))
        self.assertEqual((state(audit), trail_back(audit)), before)

    def test_14_1_an_action_that_takes_back_more_than_it_did(self):
        audit = self.audit()
        before = state(audit), trail_back(audit)

        def action(given):
            given.claim(2, 2)
            for _ in range(4):
                given.back()
            given.claim(0, 2)
            return given.depth()

        self.assertEqual(audit.trying(action), 1)
        self.assertEqual((state(audit), trail_back(audit)), before)
        self.refuses(errors.NothingDone, audit.trying, lambda given: [given.back() for _ in range(9)])
        self.assertEqual((state(audit), trail_back(audit)), before)

    def test_14_1_tries_within_tries(self):
        audit = self.audit()
        before = state(audit), trail_back(audit)

        def inner(given):
            given.back()
            given.back()
            return given.claims()

        def outer(given):
            given.spill(0, 2, 5)
            inside = state(given), trail_back(given)
            told = given.trying(inner)
            self.assertEqual((state(given), trail_back(given)), inside)
            return told, given.depth()

        self.assertEqual(audit.trying(outer), (((0, 1), (2, 2)), 4))
        self.assertEqual((state(audit), trail_back(audit)), before)

    def test_14_1_a_copy_of_a_tried_audit_stays(self):
        audit = self.audit()

        def action(given):
            given.spill(0, 2, 5)
            return given.copy()

        other = audit.trying(action)
        self.assertEqual(other.depth(), audit.depth() + 1)
        self.assertEqual(other.log().spills[-1], (0, 2, 5))
        other.back()
        self.assertEqual((state(other), trail_back(other)), (state(audit), trail_back(audit)))


if __name__ == "__main__":
    unittest.main()
