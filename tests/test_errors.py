"""Points 0.3 and the heading errors.py."""

import unittest

from tests.support import Case, W, deep
from walkingcut import errors

FIELDS = {
    "BadLog": ("part",), "OtherRack": (), "NoLot": (), "NoArrangement": (), "NoHistory": ("number",), "NoVial": (),
    "NoCut": (), "NoWalk": (), "NoPrices": (), "NoNumber": (), "NoClaims": (), "Barred": (), "NoPlace": (),
    "TooMany": ("most",), "NoColours": (), "NoSeen": (), "NoSizes": (), "NoCrated": (), "NoChoices": (), "NoHand": (),
    "NeverComes": (), "BadMixing": ("part",), "NoVials": (), "NoPlaces": (), "Taken": (), "NotClaimed": (),
    "NoSpill": (), "NothingDone": (), "BadText": ("line",), "NoLine": (), "NoName": ("name",), "NoBounds": (),
    "NoNotes": (),
}


class ErrorsTest(Case):
    def test_0_3_cut_error_derives_directly_from_value_error(self):
        self.assertEqual(errors.CutError.__bases__, (ValueError,))
        self.assertIsInstance(errors.CutError(), ValueError)

    def test_0_3_all_others_derive_directly_from_cut_error(self):
        self.assertEqual(len(FIELDS), 33)
        for name in FIELDS:
            self.assertEqual(getattr(errors, name).__bases__, (errors.CutError,), name)

    def test_0_3_errors_are_unlike_classes_of_their_names(self):
        for name in FIELDS:
            self.assertEqual(getattr(errors, name).__name__, name)
        self.assertEqual(len({getattr(errors, name) for name in FIELDS}), len(FIELDS))

    def test_0_3_the_fields_are_what_is_passed_whatever_it_is(self):
        for name, fields in FIELDS.items():
            for passed in ("many", 0, -1, None, True, [], (), {}, 10 ** 39, W, deep(40), deep(40, list), errors.NoLot):
                made = getattr(errors, name)(*[passed for _ in fields])
                for field in fields:
                    self.assertIs(getattr(made, field), passed)
                self.assertEqual(vars(made), {field: passed for field in fields})

    def test_0_3_errors_are_made_with_just_their_fields(self):
        for name, fields in FIELDS.items():
            with self.assertRaises(TypeError, msg=name):
                getattr(errors, name)(*[0 for _ in fields], 0)
            if fields:
                with self.assertRaises(TypeError, msg=name):
                    getattr(errors, name)()

    def test_0_3_errors_are_raised_and_caught_as_cut_errors(self):
        for name, fields in FIELDS.items():
            with self.assertRaises(errors.CutError):
                raise getattr(errors, name)(*[7 for _ in fields])

    def test_0_4_an_error_is_equal_to_no_other_thing(self):
        self.assertNotEqual(errors.NoLot(), errors.NoCut())
        self.assertNotEqual(errors.BadLog("many"), "many")


if __name__ == "__main__":
    unittest.main()
