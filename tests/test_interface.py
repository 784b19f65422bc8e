"""The interface: each name is defined in its own file and takes the arguments that are listed."""

import ast
import pathlib
import unittest

FOLDER = pathlib.Path(__file__).resolve().parent.parent / "walkingcut"

FUNCTIONS = {
    "logs": {
        "hands": "log", "behind": "one_log other_log", "backward": "log", "mirrored": "log", "by_hands": "log lot",
        "without": "log lot", "is_arrangement": "log thing", "inverse": "log arrangement",
    },
    "histories": {
        "is_history": "log thing", "end": "log history", "led": "log put", "touched": "log history",
        "rows": "log history", "trail": "log history vial", "many_histories": "log",
    },
    "sorting": {"sorted_back": "log arrangement", "can_come": "log arrangement", "history_for": "log arrangement"},
    "utmosts": {"utmost": "log", "passing": "log arrangement begin end", "is_below": "log one other"},
    "cuts": {
        "is_walk": "log thing", "price": "log walk", "least_price": "log begin end", "walk": "log begin end",
        "prices": "log",
    },
    "again": {"prices_behind": "one other", "prices_again": "log times", "times_still": "log"},
    "claims": {
        "is_claims": "log thing", "can_be": "log claims", "is_bar": "log claims thing",
        "least_arrangement": "log claims", "history_of": "log claims", "bar": "log claims",
        "passed": "log claims begin end",
    },
    "telling": {
        "word": "log claims vial place", "places_for": "log claims vial", "vials_for": "log claims place",
        "sure": "log claims", "true_lot": "log claims", "least_barred": "log claims", "most_true": "log claims",
    },
    "ordering": {"left_word": "log claims one other", "left_pairs": "log claims"},
    "depths": {
        "needed": "log", "loads": "log begin end", "below_by": "log arrangement", "is_deep": "log k thing",
        "depth": "log", "depth_for_all": "log", "deep_claims": "log k", "deep_arrangement": "log k",
    },
    "shapes": {"shape_in": "log", "stands_at": "log arrangement number thing"},
    "comparing": {
        "alike": "one_log other_log", "never_more": "one_log other_log", "same_alone": "one_log other_log",
        "parting": "one_log other_log", "needless": "log", "bare": "log", "stretch": "log vial", "apart": "log",
    },
    "making": {"steps_for": "log arrangement", "fewest_spills": "log arrangement", "inversions": "log arrangement"},
    "colours": {
        "can_be_seen": "log colours seen", "is_bar_seen": "log colours seen thing", "least_seen": "log colours seen",
        "history_seen": "log colours seen", "bar_seen": "log colours seen", "many_seen": "log colours",
        "all_seen": "log colours",
    },
    "crates": {
        "can_be_crated": "log sizes crated", "is_bar_crated": "log sizes crated thing",
        "least_crated": "log sizes crated", "history_crated": "log sizes crated", "bar_crated": "log sizes crated",
        "many_crated": "log sizes",
    },
    "choosing": {"either": "log choices", "many_either": "log choices"},
    "bounds": {
        "least_beyond": "log bounds", "least_ahead": "log bounds", "history_beyond": "log bounds",
        "history_ahead": "log bounds", "can_be_beyond": "log bounds", "can_be_ahead": "log bounds",
    },
    "hands": {
        "enough_hands": "log claims lot", "must_hands": "log claims", "must_spills": "log claims",
        "least_hands": "log claims", "fewest_mixed": "log claims", "cleared": "log claims hand",
    },
    "helping": {"helpers": "log claims", "helpers_at": "log claims number"},
    "witnesses": {
        "agree": "one_log other_log one other", "filling": "one_log other_log one other",
        "agreeing": "one_log other_log", "fillings": "log arrangement",
    },
    "notes": {
        "are_right": "log notes", "history_noted": "log notes", "first_wrong": "log notes",
        "noted_places": "log notes vial",
    },
    "looking": {"looks": "log", "look_tree": "log", "sure_lot": "log", "is_look_tree": "log thing"},
    "counting": {
        "many_arrangements": "log", "arrangement_number": "log arrangement", "many_with": "log claims",
        "arrangement_at": "log number", "all_arrangements": "log", "next_one": "log arrangement",
    },
    "chances": {"many_ways": "log arrangement", "chance": "log claims", "chances": "log vial", "likeliest": "log"},
    "mixings": {"as_mixing": "log"},
    "among": {
        "most_among": "mixing vials places", "ways_among": "mixing vials places", "bar_among": "mixing vials places",
        "is_bar_among": "mixing vials places thing",
    },
    "texts": {"log_text": "log", "claims_text": "log claims", "history_text": "log history"},
    "reading": {"read_log": "text", "read_claims": "log text", "read_history": "log text"},
}

CLASSES = {
    "logs": {"Log": {"__init__": "many spills", "__eq__": "other"}},
    "mixings": {"Mixing": {"__init__": "many lots", "__eq__": "other"}},
    "audits": {
        "Audit": {
            "__init__": "log", "claim": "vial place", "drop": "vial", "spill": "first last hand", "log": "",
            "claims": "", "places": "vial", "vials": "place", "sure": "", "try_claim": "vial place", "back": "",
            "depth": "", "copy": "", "trying": "action",
        },
    },
    "desk": {"Desk": {"__init__": "", "tell": "line", "undoable": ""}},
}

ERRORS = {
    "BadLog": "part", "OtherRack": "", "NoLot": "", "NoArrangement": "", "NoHistory": "number", "NoVial": "",
    "NoCut": "", "NoWalk": "", "NoPrices": "", "NoNumber": "", "NoClaims": "", "Barred": "", "NoPlace": "",
    "TooMany": "most", "NoColours": "", "NoSeen": "", "NoSizes": "", "NoCrated": "", "NoChoices": "", "NoHand": "",
    "NeverComes": "", "BadMixing": "part", "NoVials": "", "NoPlaces": "", "Taken": "", "NotClaimed": "", "NoSpill": "",
    "NothingDone": "", "BadText": "line", "NoLine": "", "NoName": "name", "NoBounds": "", "NoNotes": "",
}


def defined(name, kind):
    """What a file of the package defines at its module level, by name."""
    tree = ast.parse((FOLDER / f"{name}.py").read_text(encoding="ascii"))
    return {node.name: node for node in tree.body if isinstance(node, kind)}


def arguments(node):
    """The names of the arguments of a function that takes just plain ones."""
    told = node.args
    if told.vararg or told.kwarg or told.kwonlyargs or told.posonlyargs or told.defaults:
        return None
    return " ".join(argument.arg for argument in told.args)


def method(node, name):
    for part in node.body:
        if isinstance(part, ast.FunctionDef) and part.name == name:
            return part
    return None


class InterfaceTest(unittest.TestCase):
    def test_functions(self):
        for file, functions in FUNCTIONS.items():
            found = defined(file, ast.FunctionDef)
            for name, listed in functions.items():
                self.assertIn(name, found, file)
                self.assertEqual(arguments(found[name]), listed, f"{file}.{name}")

    def test_classes(self):
        for file, classes in CLASSES.items():
            found = defined(file, ast.ClassDef)
            for name, methods in classes.items():
                self.assertIn(name, found, file)
                for listed_method, listed in methods.items():
                    self.assertIsNotNone(method(found[name], listed_method), f"{name}.{listed_method}")
                    told = f"self {listed}".strip()
                    self.assertEqual(arguments(method(found[name], listed_method)), told, f"{name}.{listed_method}")

    def test_all_files(self):
        names = {path.stem for path in FOLDER.glob("*.py")}
        self.assertEqual(names, {*FUNCTIONS, *CLASSES, "errors", "kinds", "__init__"})

    def test_errors(self):
        found = defined("errors", ast.ClassDef)
        self.assertEqual(set(found), {"CutError", *ERRORS})
        for name, fields in ERRORS.items():
            taken = method(found[name], "__init__")
            if fields:
                self.assertEqual(arguments(taken), "self " + fields, name)
            elif taken is not None:
                self.assertEqual(arguments(taken), "self", name)


if __name__ == "__main__":
    unittest.main()
