"""Point 10.2."""

import itertools
import random
import unittest

from tests.support import Case, W, all_histories, big_log, big_logs, coming, ends_with, perms, small_logs, spoiled
from walkingcut import errors
from walkingcut.histories import led, rows
from walkingcut.logs import Log, behind
from walkingcut.notes import are_right, first_wrong, history_noted, noted_places

HOME = (0, 1, 2)
RIGHT = ((0, HOME), (1, (1, 0, 2)), (2, (1, 2, 0)))
WRONG = [
    ((1, HOME), (1, HOME)), ((2, HOME), (1, HOME)), ((1, HOME), (1, (1, 0, 2))), ((3, HOME),), ((-1, HOME),),
    ((True, HOME),), ((False, HOME),), ((0, HOME), (True, HOME)), ((0, (0, 1)),), ((0, (0, 1, 1)),),
    ((0, (0, True, 2)),), ((0, (0, 1, 2, 3)),), ((0, list(HOME)),), ([0, HOME],), [(0, HOME)], ((0, HOME, 0),), ((0,),),
    ((HOME, 0),), (0, HOME), ((None, HOME),), ((0, None),), {0: HOME}, ((0, HOME), None), "0", None, 0, {}, [],
    ((10 ** 39, HOME),), (HOME,), ((),),
]
FUNCTIONS = [are_right, history_noted, first_wrong]


def all_notes(log):
    """All notes of a log."""
    return [
        tuple(zip(numbers, told))
        for count in range(len(log.spills) + 2)
        for numbers in itertools.combinations(range(len(log.spills) + 1), count)
        for told in itertools.product(perms(log.many), repeat=count)
    ]


def has_notes(arrangements, notes):
    return all(arrangements[number] == row for number, row in notes)


class NotesTest(Case):
    def check(self, log, notes, histories):
        """For some notes, by the words, if all histories are known."""
        right = [(history, told) for history, told in histories if has_notes(told, notes)]
        self.judges(bool(right), are_right, log, notes)
        found = history_noted(log, notes)
        if right:
            self.assertIn(found, [history for history, _ in right])
            self.assertIsNone(first_wrong(log, notes))
        else:
            self.assertIsNone(found)
            wrong = min(
                at for at in range(len(notes)) if not any(has_notes(told, notes[:at + 1]) for _, told in histories)
            )
            self.assertEqual(first_wrong(log, notes), wrong)
            self.assertIs(type(first_wrong(log, notes)), int)
        for vial in range(log.many):
            if right:
                places = tuple(sorted({told[-1].index(vial) for _, told in right}))
                self.assertEqual(noted_places(log, notes, vial), places)
            else:
                self.refuses(errors.Barred, noted_places, log, notes, vial)

    def test_10_2_all_notes_of_small_racks(self):
        for log in small_logs(1, 2) + small_logs(2, 2) + small_logs(3, 1) + small_logs(3, 2)[5::3] + [W]:
            histories = all_histories(log)
            for notes in all_notes(log):
                self.check(log, notes, histories)

    def test_10_2_some_notes_of_longer_logs(self):
        chance = random.Random(4)
        for log in small_logs(3, 4)[50::9] + small_logs(4, 3)[30::25] + [big_log(seed, 5, 2, 3) for seed in range(4)]:
            histories = all_histories(log)
            for _ in range(25):
                _, told = chance.choice(histories)
                numbers = sorted(chance.sample(range(len(told)), chance.randrange(len(told) + 1)))
                notes = [(number, told[number]) for number in numbers]
                if notes and chance.random() < 0.6:
                    at = chance.randrange(len(notes))
                    notes[at] = (notes[at][0], tuple(chance.sample(range(log.many), log.many)))
                self.check(log, tuple(notes), histories)

    def test_10_2_no_notes(self):
        for log in small_logs(3, 2) + small_logs(4, 2)[::7]:
            self.judges(True, are_right, log, ())
            self.assertIsNone(first_wrong(log, ()))
            self.assertIn(ends_with(log, history_noted(log, ())), coming(log))
            for vial in range(log.many):
                places = tuple(sorted({row.index(vial) for row in coming(log)}))
                self.assertEqual(noted_places(log, (), vial), places)

    def test_10_2_notes_at_number_0_and_at_the_number_of_the_spills(self):
        self.judges(True, are_right, W, ((0, HOME),))
        self.judges(False, are_right, W, ((0, (1, 0, 2)),))
        self.assertEqual(first_wrong(W, ((0, (1, 0, 2)),)), 0)
        self.assertEqual(noted_places(W, ((0, HOME),), 0), (0, 1, 2))
        self.judges(True, are_right, W, ((2, (1, 2, 0)),))
        self.assertEqual(history_noted(W, ((2, (1, 2, 0)),)), ((1, 0), (2, 0)))
        self.assertEqual(noted_places(W, ((2, (1, 2, 0)),), 0), (2,))
        self.judges(False, are_right, W, ((2, (2, 1, 0)),))
        for many in (1, 2, 40):
            log, home = Log(many, ()), tuple(range(many))
            self.judges(True, are_right, log, ((0, home),))
            self.assertEqual(history_noted(log, ((0, home),)), ())
            self.assertEqual(noted_places(log, ((0, home),), many - 1), (many - 1,))
            if many > 1:
                self.assertEqual(first_wrong(log, ((0, home[::-1]),)), 0)

    def test_10_2_the_first_wrong_one(self):
        self.assertIsNone(first_wrong(W, RIGHT))
        self.assertEqual(first_wrong(W, ((0, (1, 0, 2)),) + RIGHT[1:]), 0)
        self.assertEqual(first_wrong(W, RIGHT[:1] + ((1, (2, 0, 1)),) + RIGHT[2:]), 1)
        self.assertEqual(first_wrong(W, RIGHT[:2] + ((2, (0, 1, 2)),)), 2)
        self.assertEqual(first_wrong(W, ((1, (1, 0, 2)), (2, (0, 2, 1)))), 1)
        self.assertEqual(first_wrong(W, ((0, (2, 1, 0)), (1, (2, 1, 0)), (2, (2, 1, 0)))), 0)

    def test_10_2_large_logs(self):
        chance = random.Random(8)
        long = behind(behind(big_log(1, spills=90, widest=3), big_log(2, spills=90, widest=3)), big_log(3, spills=9))
        for log in big_logs() + [long]:
            history = led(log, lambda number, vials: tuple(chance.sample(vials, len(vials))))
            told = rows(log, history)
            numbers = sorted(chance.sample(range(len(told)), min(len(told), 9)))
            notes = tuple((number, told[number]) for number in numbers)
            self.judges(True, are_right, log, notes)
            self.assertIsNone(first_wrong(log, notes))
            found = rows(log, history_noted(log, notes))
            self.assertTrue(has_notes(found, notes))
            self.check_places(log, notes, chance.randrange(40))
            whole = tuple(enumerate(told))
            self.assertEqual(history_noted(log, whole), history)
            self.assertEqual(noted_places(log, whole, 3), (told[-1].index(3),))
            wrong = tuple(chance.sample(range(40), 40))
            at = chance.randrange(len(notes))
            spoilt = notes[:at] + ((notes[at][0], wrong),) + notes[at + 1:]
            self.check_first_wrong(log, spoilt)

    def check_places(self, log, notes, vial):
        number, row = notes[-1]
        here = {row.index(vial)}
        for first, last, _ in log.spills[number:]:
            if any(first <= place <= last for place in here):
                here |= set(range(first, last + 1))
        self.assertEqual(noted_places(log, notes, vial), tuple(sorted(here)))

    def check_first_wrong(self, log, notes):
        """Each note must come of the one ahead of it, and the first one of home."""
        before, told = (0, tuple(range(log.many))), None
        for at, (number, row) in enumerate(notes):
            cells = [before[1].index(vial) for vial in row]
            for first, last, _ in reversed(log.spills[before[0]:number]):
                cells[first:last + 1] = sorted(cells[first:last + 1])
            if cells != sorted(cells) and told is None:
                told = at
            before = (number, row)
        self.assertEqual(first_wrong(log, notes), told)
        self.judges(told is None, are_right, log, notes)
        self.assertEqual(history_noted(log, notes) is None, told is not None)

    def test_10_2_refuses(self):
        for thing in WRONG + spoiled(RIGHT):
            if repr(thing) != "()":
                for function in FUNCTIONS:
                    self.refuses(errors.NoNotes, function, W, thing)
                self.refuses(errors.NoNotes, noted_places, W, thing, 0)
                self.refuses(errors.NoNotes, noted_places, W, thing, None)

    def test_10_2_the_order_of_the_errors(self):
        self.refuses(errors.NoNotes, noted_places, W, ((3, HOME),), 3)
        self.refuses(errors.Barred, noted_places, W, ((0, (1, 0, 2)),), 3)
        for vial in [thing for thing in spoiled(0) if type(thing) is not int] + [3, -1, 10 ** 39, True, False]:
            self.refuses(errors.NoVial, noted_places, W, RIGHT, vial)
            self.refuses(errors.NoVial, noted_places, W, (), vial)
            self.refuses(errors.Barred, noted_places, W, ((2, (2, 1, 0)),), vial)


if __name__ == "__main__":
    unittest.main()
