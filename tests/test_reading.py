"""Point 15.2."""

import re
import unittest

from tests.support import Case, W, deep, not_tuples, odd_tuples
from walkingcut import errors
from walkingcut.logs import Log
from walkingcut.reading import read_claims, read_history, read_log

RACK, SPILL = "rack 3\n", "spill 0 1 0\n"
NUMBER = "(0|[1-9][0-9]{0,8})"
NO_STRINGS = [thing for thing in not_tuples() + odd_tuples() if type(thing) is not str] + [0, 7, (), ("rack 3\n",)]


def wrong_line(text, first, other, rack):
    """The number of the first wrong line by the words, None if there is none."""
    lines = text.split("\n")
    for at, line in enumerate(lines[:-1]):
        if not re.fullmatch(first if at == 0 else other, line):
            return at + 1
    if lines[-1] or (rack and len(lines) == 1):
        return len(lines)
    return None


def wrong_in_log(text):
    return wrong_line(text, f"rack {NUMBER}", f"spill {NUMBER} {NUMBER} {NUMBER}", True)


def wrong_in_claims(text):
    return wrong_line(text, f"claim {NUMBER} {NUMBER}", f"claim {NUMBER} {NUMBER}", False)


def wrong_in_history(text):
    return wrong_line(text, f"row( {NUMBER})+", f"row( {NUMBER})+", False)


def altered(text):
    """A text with one sign more, one less, or one in the place of another one, at each place."""
    found = []
    for at in range(len(text) + 1):
        for sign in " \t\n0919-+.,ar|:_":
            found.append(text[:at] + sign + text[at:])
            found.append(text[:at] + sign + text[at + 1:])
        found.append(text[:at] + text[at + 1:])
        found.append(text[:at])
    return found


class ReadLogTest(Case):
    def test_15_2_logs(self):
        self.assertEqual(read_log("rack 3\nspill 0 1 0\nspill 1 2 1\n"), W)
        self.assertEqual(read_log("rack 1\n"), Log(1, ()))
        self.assertEqual(read_log("rack 40\nspill 0 39 11\n"), Log(40, ((0, 39, 11),)))
        self.assertEqual(read_log(RACK + SPILL * 100), Log(3, ((0, 1, 0),) * 100))
        self.assertIs(type(read_log(RACK)), Log)

    def test_15_2_the_first_wrong_line(self):
        for text, line in (
            ("", 1), ("\n", 1), ("rack 3", 1), ("rack", 1), ("rack\n", 1), ("rack \n", 1), ("rack 3 \n", 1),
            (" rack 3\n", 1), ("rack  3\n", 1), ("rack\t3\n", 1), ("rack 3\t\n", 1), ("Rack 3\n", 1), ("RACK 3\n", 1),
            ("rack 3 3\n", 1), ("rack +3\n", 1), ("rack -3\n", 1), ("rack 03\n", 1), ("rack 00\n", 1),
            ("rack 3.0\n", 1), ("rack x\n", 1), ("rack 1234567890\n", 1), ("rack 0000000003\n", 1), ("rack 1_0\n", 1),
            ("rack ''\n", 1), (SPILL, 1), (SPILL + RACK, 1), ("\n" + RACK, 1), (RACK + RACK, 2), (RACK + "\n", 2),
            (RACK + "\n" + SPILL, 2), (RACK + SPILL + "\n", 3), (RACK + SPILL + RACK, 3), (RACK + "spill 0 1 0", 2),
            (RACK + " ", 2), (RACK + SPILL + "x", 3), (RACK + SPILL + " ", 3), (RACK + "spill 0 1\n", 2),
            (RACK + "spill 0 1 0 0\n", 2), (RACK + "spill\n", 2), (RACK + "spill 0  1 0\n", 2),
            (RACK + "spill 0 1 0 \n", 2), (RACK + " spill 0 1 0\n", 2), (RACK + "spill 0 01 0\n", 2),
            (RACK + "spill 0 1 -0\n", 2), (RACK + "spill 0 1 0000000000\n", 2), (RACK + "spill 0 1 1234567890\n", 2),
            (RACK + "spill 0 1 x\n", 2), (RACK + SPILL + "spill 0 1\n" + "x", 3), (RACK + "x\n" + "y\n", 2),
            (RACK + "claim 0 1\n", 2), (RACK + "row 0 1\n", 2), (RACK + "spill 0 1 0|\n", 2),
            (RACK + "spill 0,1,0\n", 2), ("rack 3\nspill 0 1 0\n\t", 3), ("rack 99\nrack 99\n", 2),
            (RACK + SPILL * 100 + "x\n", 102), (RACK + SPILL * 200 + "x", 202), ("rack 3\r\n", 1),
            ("rack 3\x0bspill 0 1 0\n", 1),
        ):
            self.refuses(errors.BadText, read_log, text, line=line)
            self.assertEqual(wrong_in_log(text), line, repr(text))

    def test_15_2_each_place_spoiled(self):
        seen = 0
        for text in set(altered("rack 3\nspill 0 1 0\nspill 1 2 10\n")):
            line = wrong_in_log(text)
            if line is not None:
                self.refuses(errors.BadText, read_log, text, line=line)
                seen += 1
            else:
                # Right lines: a log or none, but never a wrong text.
                try:
                    self.assertIs(type(read_log(text)), Log)
                except errors.BadLog:
                    seen += 1
        self.assertGreater(seen, 300)

    def test_15_2_right_lines_that_are_no_log(self):
        for text, part in (
            ("rack 0\n", "many"), ("rack 41\n", "many"), ("rack 999999999\n", "many"),
            ("rack 0\nspill 0 1 0\n", "many"), ("rack 3\nspill 1 1 0\n", "spills"), ("rack 3\nspill 0 3 0\n", "spills"),
            ("rack 3\nspill 0 1 12\n", "spills"), ("rack 3\nspill 2 1 0\n", "spills"),
            ("rack 1\nspill 0 1 0\n", "spills"), ("rack 3\nspill 0 999999999 0\n", "spills"),
            (RACK + SPILL * 101, "spills"), ("rack 41\nspill 9 9 99\n", "many"),
        ):
            self.refuses(errors.BadLog, read_log, text, part=part)
        self.refuses(errors.BadText, read_log, "rack 0\nspill 0 1\n", line=2)
        self.refuses(errors.BadText, read_log, RACK + SPILL * 101 + "x", line=103)

    def test_15_2_what_no_strings_are(self):
        for thing in NO_STRINGS:
            self.refuses(errors.BadText, read_log, thing, line=0)
            self.refuses(errors.BadText, read_claims, W, thing, line=0)
            self.refuses(errors.BadText, read_history, W, thing, line=0)
        for thing in (deep(40), deep(40, list), deep(40, dict), b"rack 3\n", ["rack 3\n"], ("rack 3\n",) * 9999):
            self.refuses(errors.BadText, read_log, thing, line=0)

    def test_15_2_long_strings(self):
        self.refuses(errors.BadText, read_log, "x" * 10000, line=1)
        self.refuses(errors.BadText, read_log, "rack " + "9" * 10000 + "\n", line=1)
        self.refuses(errors.BadText, read_log, "\n" * 10000, line=1)
        self.refuses(errors.BadText, read_log, RACK + "\n" * 10000, line=2)
        self.refuses(errors.BadText, read_log, RACK + "spill" + " 1" * 5000 + "\n", line=2)


class ReadClaimsTest(Case):
    def test_15_2_claims(self):
        self.assertEqual(read_claims(W, ""), ())
        self.assertEqual(read_claims(W, "claim 0 2\nclaim 2 0\n"), ((0, 2), (2, 0)))
        self.assertEqual(read_claims(Log(40, ()), "claim 10 39\n"), ((10, 39),))
        # Claims that cannot be true are claims.
        self.assertEqual(read_claims(W, "claim 2 0\n"), ((2, 0),))

    def test_15_2_the_first_wrong_line(self):
        for text, line in (
            ("claim 0 1", 1), ("claim 0 1\nclaim 1 0", 2), ("\n", 1), (" ", 1), ("claim\n", 1), ("claim 0\n", 1),
            ("claim 0 1 2\n", 1), ("claim  0 1\n", 1), ("claim 0 1 \n", 1), (" claim 0 1\n", 1), ("claim 0\t1\n", 1),
            ("claim 00 1\n", 1), ("claim 0 -1\n", 1), ("claim 0 1\n\n", 2), ("claim 0 1\nclaim 1 0\nx", 3),
            ("rack 3\n", 1), ("claim 0 1\nrow 0 1\n", 2), ("claim 0 1234567890\n", 1), ("Claim 0 1\n", 1),
            ("claim 0:1\n", 1), ("claims 0 1\n", 1), ("claim 9 9\nclaim 0\n", 2),
        ):
            self.refuses(errors.BadText, read_claims, W, text, line=line)
            self.assertEqual(wrong_in_claims(text), line, repr(text))

    def test_15_2_each_place_spoiled(self):
        for text in set(altered("claim 0 1\nclaim 2 0\n")):
            line = wrong_in_claims(text)
            if line is not None:
                self.refuses(errors.BadText, read_claims, W, text, line=line)
            else:
                try:
                    self.assertIs(type(read_claims(W, text)), tuple)
                except errors.NoClaims:
                    pass

    def test_15_2_right_lines_that_are_no_claims(self):
        for text in (
            "claim 0 3\n", "claim 3 0\n", "claim 1 0\nclaim 0 1\n", "claim 0 1\nclaim 0 1\n", "claim 0 1\nclaim 1 1\n",
            "claim 0 1\nclaim 0 2\n", "claim 0 999999999\n", "claim 0 0\nclaim 1 1\nclaim 2 2\nclaim 3 3\n",
        ):
            self.refuses(errors.NoClaims, read_claims, W, text)


class ReadHistoryTest(Case):
    def test_15_2_histories(self):
        self.assertEqual(read_history(Log(3, ()), ""), ())
        self.assertEqual(read_history(W, "row 1 0\nrow 2 0\n"), ((1, 0), (2, 0)))

    def test_15_2_the_first_wrong_line(self):
        for text, line in (
            ("row 1 0", 1), ("row 1 0\nrow 2 0", 2), ("row\n", 1), ("row \n", 1), ("\n", 1), ("row 1 0\nrow\n", 2),
            ("row 1  0\n", 1), ("row 1 0 \n", 1), (" row 1 0\n", 1), ("row 1\t0\n", 1), ("row 01 0\n", 1),
            ("row -1 0\n", 1), ("row 1 0\n\nrow 2 0\n", 2), ("row 1 0\nrow 2 0\n ", 3), ("rack 3\n", 1),
            ("row 1234567890\n", 1), ("ROW 1 0\n", 1), ("rows 1 0\n", 1), ("row 9 9\nrow x\n", 2),
        ):
            self.refuses(errors.BadText, read_history, W, text, line=line)
            self.assertEqual(wrong_in_history(text), line, repr(text))

    def test_15_2_each_place_spoiled(self):
        for text in set(altered("row 1 0\nrow 2 0\n")):
            line = wrong_in_history(text)
            if line is not None:
                self.refuses(errors.BadText, read_history, W, text, line=line)
            else:
                try:
                    self.assertIs(type(read_history(W, text)), tuple)
                except errors.NoHistory:
                    pass

    def test_15_2_right_lines_that_are_no_history(self):
        for text, number in (
            ("", -1), ("row 1 0\n", -1), ("row 1 0\nrow 2 0\nrow 0 1\n", -1), ("row 1 0\nrow 1 0\n", 1),
            ("row 0 2\nrow 2 0\n", 0), ("row 1\nrow 2 0\n", 0), ("row 1 0\nrow 2 0 1\n", 1), ("row 1 0\nrow 2 2\n", 1),
            ("row 999999999\nrow 2 0\n", 0), ("row 1 0\nrow" + " 0" * 50 + "\n", 1),
        ):
            self.refuses(errors.NoHistory, read_history, W, text, number=number)


if __name__ == "__main__":
    unittest.main()
