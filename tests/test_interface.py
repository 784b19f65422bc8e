"""The interface: each name is defined in its own file and takes the arguments that are listed."""

import ast
import pathlib
import unittest

FOLDER = pathlib.Path(__file__).resolve().parent.parent / "walkingcut"

FUNCTIONS = {
    "logs": {
        "hands": "log", "behind": "one_log other_log", "backward": "log", "mirrored": "log", "by_hands": "log lot",
        "without": "log lot", "is_arrangement": "log thing", "inverse": "log arrangement",
    },
    "histories": {
        "is_history": "log thing", "end": "log history", "led": "log put", "touched": "log history",
        "rows": "log history", "trail": "log history vial", "many_histories": "log",
    },
    "sorting": {"sorted_back": "log arrangement", "can_come": "log arrangement", "history_for": "log arrangement"},
    "utmosts": {"utmost": "log", "passing": "log arrangement begin end", "is_below": "log one other"},
    "cuts": {
        "is_walk": "log thing", "price": "log walk", "least_price": "log begin end", "walk": "log begin end",
        "prices": "log",
    },
    "again": {"prices_behind": "one other", "prices_again": "log times", "times_still": "log"},
    "claims": {
        "is_claims": "log thing", "can_be": "log claims", "is_bar": "log claims thing", "least_arrangement": "log claims",
        "history_of": "log claims", "bar": "log claims", "passed": "log claims begin end",
    },
    "telling": {
        "word": "log claims vial place", "places_for": "log claims vial", "vials_for": "log claims place",
        "sure": "log claims", "true_lot": "log claims", "least_barred": "log claims", "most_true": "log claims",
    },
    "ordering": {"left_word": "log claims one other", "left_pairs": "log claims"},
    "depths": {
        "needed": "log", "loads": "log begin end", "below_by": "log arrangement", "is_deep": "log k thing", "depth": "log",
        "depth_for_all": "log", "deep_claims": "log k", "deep_arrangement": "log k",
    },
    "shapes": {"shape_in": "log", "stands_at": "log arrangement number thing"},
    "comparing": {
        "alike": "one_log other_log", "never_more": "one_log other_log", "same_alone": "one_log other_log",
        "parting": "one_log other_log", "needless": "log", "bare": "log", "stretch": "log vial", "apart": "log",
    },
    "making": {"steps_for": "log arrangement", "fewest_spills": "log arrangement", "inversions": "log arrangement"},
    "colours": {
        "can_be_seen": "log colours seen", "is_bar_seen": "log colours seen thing", "least_seen": "log colours seen",
        "history_seen": "log colours seen", "bar_seen": "log colours seen", "many_seen": "log colours",
        "all_seen": "log colours",
    },
    "crates": {
        "can_be_crated": "log sizes crated", "is_bar_crated": "log sizes crated thing",
        "least_crated": "log sizes crated", "history_crated": "log sizes crated", "bar_crated": "log sizes crated",
        "many_crated": "log sizes",
    },
    "choosing": {"either": "log choices", "many_either": "log choices"},
    "bounds": {
        "least_beyond": "log bounds", "least_ahead": "log bounds", "history_beyond": "log bounds",
        "history_ahead": "log bounds", "can_be_beyond": "log bounds", "can_be_ahead": "log bounds",
    },
    "hands": {
        "enough_hands": "log claims lot", "must_hands": "log claims", "must_spills": "log claims",
        "least_hands": "log claims", "fewest_mixed": "log claims", "cleared": "log claims hand",
    },
    "helping": {"helpers": "log claims", "helpers_at": "log claims number"},
}

ERRORS = {
    "BadLog": "part", "OtherRack": "", "NoLot": "", "NoArrangement": "", "NoHistory": "number", "NoVial": "",
    "NoCut": "", "NoWalk": "", "NoPrices": "", "NoNumber": "", "NoClaims": "", "Barred": "", "NoPlace": "",
    "TooMany": "most", "NoColours": "", "NoSeen": "", "NoSizes": "", "NoCrated": "", "NoChoices": "", "NoHand": "",
    "NeverComes": "", "BadMixing": "part", "NoVials": "", "NoPlaces": "", "Taken": "", "NotClaimed": "", "NoSpill": "",
    "NothingDone": "", "BadText": "line", "NoLine": "", "NoName": "name", "NoBounds": "", "NoNotes": "",
}


def defined(name, kind):
    """What a file of the package defines at its module level, by name."""
    tree = ast.parse((FOLDER / f"{name}.py").read_text(encoding="ascii"))
    return {node.name: node for node in tree.body if isinstance(node, kind)}


def arguments(node):
    """The names of the arguments of a function that takes just plain ones."""
    told = node.args
    if told.vararg or told.kwarg or told.kwonlyargs or told.posonlyargs or told.defaults:
        return None
    return " ".join(argument.arg for argument in told.args)


def method(node, name):
    for part in node.body:
        if isinstance(part, ast.FunctionDef) and part.name == name:
            return part
    return None


class InterfaceTest(unittest.TestCase):
    def test_functions(self):
        for file, functions in FUNCTIONS.items():
            found = defined(file, ast.FunctionDef)
            for name, listed in functions.items():
                self.assertIn(name, found, file)
                self.assertEqual(arguments(found[name]), listed, f"{file}.{name}")

    def test_log(self):
        found = defined("logs", ast.ClassDef)
        self.assertEqual(arguments(method(found["Log"], "__init__")), "self many spills")
        self.assertEqual(arguments(method(found["Log"], "__eq__")), "self other")

    def test_errors(self):
        found = defined("errors", ast.ClassDef)
        self.assertEqual(set(found), {"CutError", *ERRORS})
        for name, fields in ERRORS.items():
            taken = method(found[name], "__init__")
            if fields:
                self.assertEqual(arguments(taken), "self " + fields, name)
            elif taken is not None:
                self.assertEqual(arguments(taken), "self", name)


if __name__ == "__main__":
    unittest.main()
