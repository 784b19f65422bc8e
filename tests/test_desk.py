"""Points 16.1 and 16.2."""

import random
import re
import unittest

from tests.support import (
    Case, W, all_claims, big_log, cheapest_rows, coming, deep, has_all, not_tuples, odd_tuples, small_logs, utmost_of,
)
from walkingcut import errors
from walkingcut.claims import bar
from walkingcut.counting import many_arrangements
from walkingcut.depths import depth, depth_for_all
from walkingcut.desk import Desk
from walkingcut.hands import must_hands
from walkingcut.telling import word

TEXT = "rack 3|spill 0 1 0|spill 1 2 1|"
OTHER = "rack 2|spill 0 1 5|"
NAME, NUMBER = "[a-z]{1,8}", "(0|[1-9][0-9]{0,8})"
CLAIMS = f"(-|{NUMBER}:{NUMBER}(,{NUMBER}:{NUMBER})*)"
FORMS = [
    f"log {NAME} [ -~\t]+", f"drop {NAME}", "names", f"show {NAME}", f"can {NAME} {CLAIMS}",
    f"word {NAME} {CLAIMS} {NUMBER} {NUMBER}", f"bar {NAME} {CLAIMS}", f"price {NAME} {NUMBER} {NUMBER}",
    f"utmost {NAME}", f"depth {NAME}", f"count {NAME}", f"hands {NAME} {CLAIMS}", "undo",
]
LINES = [
    f"log b {OTHER}", "drop w", "names", "show w", "can w 0:1,2:2", "can w -", "word w 0:1,1:0 2 2", "bar w 0:1,1:2",
    "price w 2 1", "utmost w", "depth w", "count w", "hands w 0:2", "undo",
]
NO_LINES = [
    "", " ", "log", "log ", "log w", "log w ", f"log  w {TEXT}", f" log w {TEXT}", f"LOG w {TEXT}", f"Log w {TEXT}",
    f"log W {TEXT}", f"log abcdefghi {TEXT}", f"log w1 {TEXT}", f"log w- {TEXT}", f"log  {TEXT}", f"logs w {TEXT}",
    f"log\tw {TEXT}", "drop", "drop ", "drop  w", "drop w ", " drop w", "Drop w", "drop W", "drop w w",
    "drop abcdefghi", "drop w2", "dropw", "drop\tw", "names ", " names", "names w", "NAMES", "name", "namesnames",
    "show", "show w ", "show w w", "show", "show  w", "show -", "can", "can w", "can w ", "can  w -", "can w  -",
    "can w - ", "can w --", "can w -,", "can w ,", "can w 0", "can w 0:", "can w :0", "can w 0:1,", "can w ,0:1",
    "can w 0:1,,2:2", "can w 0:1, 2:2", "can w 0:1 2:2", "can w 0:1:2", "can w 0-1", "can w 00:1", "can w 0:01",
    "can w +0:1", "can w 0:-1", "can w 0:1234567890", "can w 1234567890:0", "can w a:b", "can w 0:1,-", "can w -,0:1",
    "can w 0:1.", "can w (0:1)", "CAN w -", "can W -", "can - w", "can w 0: 1", "can w 0:1;1:0", "can w 0:1\t",
    "can\tw -", "word w - 0", "word w 0 0", "word w - 0 0 0", "word w - 00 0", "word w - 0 -1", "word w -  0 0",
    "word w - 0 0 ", "word w - x 0", "word w - 0 1234567890", "word w 0 0 -", "word - w 0 0", "bar", "bar w",
    "bar w - -", "bar w 0,1", "bar w 0:1,1:2 ", "price w", "price w 0", "price w 0 0 0", "price w 00 0", "price w 0 +1",
    "price w -1 0", "price w 0:1", "price w 0 0 ", "price 0 0 w", "price w 0 1234567890", "price w 0  0", "utmost",
    "utmost w w", "utmost  w", "utmost w ", "depth", "depth w w", "depth w ", "depth  w", "count", "count w w",
    "count w ", "hands", "hands w", "hands w 0", "hands w 0:2 ", "hands w - -", "hand w -", "undo ", " undo", "UNDO",
    "undo undo", "undo w", "undo 1", "redo", "w", "-", "help", "none", "ok", TEXT, "rack 3", "|", "name in",
    f"log w {TEXT}\n", "\n", "names\n", "\nnames", "undo\n", "drop w\n", "can w\n-", "log w rack 3\n",
    "log w rack 3|\nspill 0 1 0|",
]


def kept():
    """A desk that keeps the document's log as w, and one more."""
    desk = Desk()
    desk.tell(f"log w {TEXT}")
    desk.tell("log other rack 9|spill 0 8 3|")
    return desk


def state(desk):
    names = desk.tell("names")
    return names, [desk.tell(f"show {name}") for name in names.split(" ")] if names != "none" else [], desk.undoable()


def written(claims):
    return ",".join(f"{vial}:{place}" for vial, place in claims) or "-"


def text_of(log):
    return "|".join([f"rack {log.many}"] + [f"spill {first} {last} {hand}" for first, last, hand in log.spills]) + "|"


class DeskCase(Case):
    def keeps(self, desk, error, asked, **fields):
        """The error, and that nothing has changed."""
        before = state(desk)
        self.refuses(error, desk.tell, asked, **fields)
        self.assertEqual(state(desk), before)

    def tells(self, desk, asked, told):
        found = desk.tell(asked)
        self.assertEqual(found, told)
        self.assertIs(type(found), str)


class DeskTest(DeskCase):
    def test_16_1_a_desk_at_first(self):
        desk = Desk()
        self.tells(desk, "names", "none")
        self.assertEqual(desk.undoable(), 0)
        self.keeps(desk, errors.NothingDone, "undo")
        self.keeps(desk, errors.NoName, "show w", name="w")

    def test_16_1_logs_are_kept(self):
        desk = Desk()
        self.tells(desk, f"log w {TEXT}", "ok")
        self.tells(desk, "names", "w")
        self.tells(desk, "show w", TEXT)
        self.assertEqual(desk.undoable(), 1)
        self.tells(desk, f"log w {OTHER}", "ok")
        self.tells(desk, "show w", OTHER)
        self.tells(desk, "log abcdefgh rack 1|", "ok")
        self.tells(desk, "log aa rack 40|", "ok")
        self.tells(desk, "log b rack 7|", "ok")
        self.tells(desk, "names", "aa abcdefgh b w")
        self.tells(desk, "show abcdefgh", "rack 1|")
        self.assertEqual(desk.undoable(), 5)
        self.tells(desk, "drop b", "ok")
        self.tells(desk, "names", "aa abcdefgh w")
        self.keeps(desk, errors.NoName, "drop b", name="b")
        for name in ("aa", "abcdefgh", "w"):
            self.tells(desk, f"drop {name}", "ok")
        self.tells(desk, "names", "none")
        self.assertEqual(desk.undoable(), 9)

    def test_16_1_names_may_be_words_of_the_lines(self):
        desk = Desk()
        for name in ("log", "drop", "names", "undo", "none", "ok", "can"):
            self.tells(desk, f"log {name} {TEXT}", "ok")
        self.tells(desk, "names", "can drop log names none ok undo")
        self.tells(desk, "can can -", "yes")
        self.tells(desk, "drop drop", "ok")
        self.tells(desk, "undo", "ok")
        self.tells(desk, "show drop", TEXT)

    def test_16_1_told_answers(self):
        desk = kept()
        for line, told in (
            ("can w -", "yes"), ("can w 0:1,1:2", "no"), ("can w 0:2", "yes"), ("can w 0:2,1:0,2:1", "yes"),
            ("word w 1:0 2 0", "never"), ("word w - 0 0", "open"), ("word w 0:2 2 1", "surely"),
            ("word w 1:0 0 1", "open"), ("bar w -", "none"), ("bar w 0:2", "none"), ("price w 2 1", "1"),
            ("price w 0 3", "0"), ("utmost w", "1 2 0"), ("depth w", "2 1"), ("count w", "4"), ("hands w 0:2", "0,1"),
            ("hands w -", "none"), ("hands w 2:0", "0,1"), ("hands other 0:8", "3"),
            ("show other", "rack 9|spill 0 8 3|"), ("names", "other w"), ("utmost other", "8 7 6 5 4 3 2 1 0"),
        ):
            self.tells(desk, line, told)
        cuts = tuple(int(cut) for cut in desk.tell("bar w 0:1,1:2").split(" "))
        self.assertEqual(cuts, bar(W, ((0, 1), (1, 2))))
        self.assertEqual(desk.undoable(), 2)

    def test_16_1_small_racks_gone_through(self):
        for log in small_logs(1, 1) + small_logs(2, 2) + small_logs(3, 2):
            desk, rows, table = Desk(), coming(log), cheapest_rows(log)
            self.assertEqual(desk.tell(f"log x {text_of(log)}"), "ok")
            self.assertEqual(desk.tell("show x"), text_of(log))
            self.assertEqual(desk.tell("count x"), str(len(rows)))
            self.assertEqual(desk.tell("utmost x"), " ".join(str(vial) for vial in utmost_of(log)))
            self.assertEqual(desk.tell("depth x"), f"{depth(log)} {depth_for_all(log)}")
            for begin in range(log.many + 1):
                for cut in range(log.many + 1):
                    self.assertEqual(desk.tell(f"price x {begin} {cut}"), str(table[begin][cut]))
            for claims in all_claims(log.many):
                self.check_claims(desk, log, claims, [row for row in rows if has_all(row, claims)])

    def check_claims(self, desk, log, claims, rows):
        line = f"x {written(claims)}"
        self.assertEqual(desk.tell(f"can {line}"), "yes" if rows else "no")
        told = desk.tell(f"bar {line}")
        if rows:
            self.assertEqual(told, "none")
        else:
            self.assertEqual(told, " ".join(str(cut) for cut in bar(log, claims)))
        self.assertEqual(desk.tell(f"hands {line}"), ",".join(str(hand) for hand in must_hands(log, claims)) or "none")
        for vial in range(log.many):
            for place in range(log.many):
                if rows:
                    self.assertEqual(desk.tell(f"word {line} {vial} {place}"), word(log, claims, vial, place))
                else:
                    self.refuses(errors.Barred, desk.tell, f"word {line} {vial} {place}")

    def test_16_1_logs_with_a_hundred_spills(self):
        log = big_log(3, 8, 100, 3)
        desk = Desk()
        desk.tell(f"log x {text_of(log)}")
        self.assertEqual(desk.tell("show x"), text_of(log))
        self.assertEqual(desk.tell("count x"), str(many_arrangements(log)))
        self.keeps(desk, errors.BadLog, f"log y {text_of(log)}spill 0 1 0|", part="spills")

    def test_16_1_undo(self):
        desk = Desk()
        desk.tell(f"log w {TEXT}")
        self.tells(desk, "undo", "ok")
        self.tells(desk, "names", "none")
        self.keeps(desk, errors.NothingDone, "undo")
        desk.tell(f"log w {TEXT}")
        desk.tell(f"log w {OTHER}")
        desk.tell("drop w")
        self.assertEqual(desk.undoable(), 3)
        self.tells(desk, "undo", "ok")
        self.tells(desk, "show w", OTHER)
        self.assertEqual(desk.undoable(), 2)
        self.tells(desk, "undo", "ok")
        self.tells(desk, "show w", TEXT)
        desk.tell("drop w")
        self.tells(desk, "undo", "ok")
        self.tells(desk, "show w", TEXT)
        self.tells(desk, "undo", "ok")
        self.tells(desk, "names", "none")
        self.keeps(desk, errors.NothingDone, "undo")

    def test_16_1_undo_behind_refused_and_other_lines(self):
        desk = kept()
        for line in (
            "log w rack 0|", "log w x", "drop x", "can w 9:9", "word w 2:0 0 0", "price w 4 0", "nothing", "show x",
        ):
            with self.assertRaises(errors.CutError):
                desk.tell(line)
        for line in (
            "names", "show w", "can w -", "bar w 2:0", "price w 0 0", "utmost w", "depth w", "count w", "hands w -",
        ):
            desk.tell(line)
        self.assertEqual(desk.undoable(), 2)
        self.tells(desk, "undo", "ok")
        self.assertEqual(state(desk), ("w", [TEXT], 1))

    def test_16_1_many_lines_and_back(self):
        chance = random.Random(9)
        desk, states = Desk(), []
        for _ in range(400):
            name, before = chance.choice("abc"), state(desk)
            line = chance.choice([f"log {name} rack {chance.randrange(0, 9)}|", f"drop {name}", "undo"])
            try:
                self.assertEqual(desk.tell(line), "ok")
            except errors.CutError:
                self.assertEqual(state(desk), before)
            else:
                if line == "undo":
                    self.assertEqual(state(desk), states.pop())
                else:
                    states.append(before)
            self.assertEqual(desk.undoable(), len(states))
        while states:
            desk.tell("undo")
            self.assertEqual(state(desk), states.pop())
        self.keeps(desk, errors.NothingDone, "undo")

    def test_16_1_a_log_of_the_same_text_can_be_taken_back_too(self):
        desk = kept()
        desk.tell(f"log w {TEXT}")
        self.assertEqual(desk.undoable(), 3)
        desk.tell("undo")
        self.tells(desk, "show w", TEXT)

    def test_0_4_desks_go_apart(self):
        one, other = Desk(), Desk()
        one.tell(f"log w {TEXT}")
        self.assertEqual(other.tell("names"), "none")
        self.assertFalse(one == "desk" or one == W or one is None)
        self.assertEqual(other.undoable(), 0)


class LinesTest(DeskCase):
    def test_16_2_no_lines(self):
        desk = kept()
        for line in NO_LINES:
            self.keeps(desk, errors.NoLine, line)
        for line in NO_LINES:
            self.refuses(errors.NoLine, Desk().tell, line)

    def test_16_2_things_that_are_no_strings(self):
        desk = kept()
        for thing in not_tuples() + odd_tuples() + [
            0, 1, b"names", ("names",), ["names"], {"names": 0}, deep(40), deep(40, list),
        ]:
            self.keeps(desk, errors.NoLine, thing)
        for thing in (
            "x" * 10000, " " * 10000, "log" + " " * 9000, "log  " * 2000, "can w " + "0:1," * 2000, "names" * 2000,
        ):
            self.keeps(desk, errors.NoLine, thing)

    def test_16_2_each_line_spoiled_at_each_place(self):
        desk = kept()
        for line in LINES:
            self.assertTrue(any(re.fullmatch(form, line) for form in FORMS), line)
            for at in range(len(line) + 1):
                self.check_spoilt(desk, line[:at] + line[at + 1:])
                for sign in " \t\n0-,:|aA":
                    self.check_spoilt(desk, line[:at] + sign + line[at:])
                    self.check_spoilt(desk, line[:at] + sign + line[at + 1:])
            words = line.split(" ")
            for at in range(len(words)):
                self.check_spoilt(desk, " ".join(words[:at] + words[at + 1:]))
                self.check_spoilt(desk, " ".join(words[:at + 1] + words[at:]))
                self.check_spoilt(desk, " ".join(words[:at] + [words[at].upper()] + words[at + 1:]))

    def check_spoilt(self, desk, line):
        """NoLine just for what has none of the forms."""
        if not any(re.fullmatch(form, line) for form in FORMS):
            self.keeps(desk, errors.NoLine, line)
            return
        count = desk.undoable()
        try:
            self.assertIs(type(desk.tell(line)), str)
        except errors.CutError as raised:
            self.assertNotIsInstance(raised, errors.NoLine, line)
        if line == "undo":
            desk.tell(f"log other rack 9|spill 0 8 3|")
        while desk.undoable() > count:
            desk.tell("undo")

    def test_16_2_names_and_numbers_at_their_ends(self):
        desk = Desk()
        self.keeps(desk, errors.NoLine, f"log abcdefghi {TEXT}")
        self.assertEqual(desk.tell(f"log abcdefgh {TEXT}"), "ok")
        self.assertEqual(desk.tell(f"log z {TEXT}"), "ok")
        self.keeps(desk, errors.NoName, "show abcdefg", name="abcdefg")
        self.keeps(desk, errors.NoCut, "price z 999999999 0")
        self.keeps(desk, errors.NoLine, "price z 1000000000 0")
        self.keeps(desk, errors.NoClaims, "can z 999999999:0")
        self.keeps(desk, errors.NoLine, "can z 1000000000:0")
        self.keeps(desk, errors.NoVial, "word z - 999999999 0")
        self.keeps(desk, errors.NoPlace, "word z - 0 999999999")

    def test_16_2_texts_that_are_no_logs(self):
        desk = kept()
        for text, line in (
            ("rack 3", 1), ("x", 1), ("|", 1), (" rack 3|", 1), ("rack 3| ", 2), ("rack 3||", 2),
            ("rack 3|spill 0 1|", 2), ("rack 3|spill 0 1 0", 2), ("rack 3|rack 3|", 2), ("rack\t3|", 1), (" ", 1),
            ("  ", 1), ("rack 03|", 1), ("rack 3 |", 1), ("rack  3|", 1), ("rack 3|spill 0 1 0|spill 0 1 0 |", 3),
        ):
            self.keeps(desk, errors.BadText, f"log w {text}", line=line)
            self.keeps(desk, errors.BadText, f"log new {text}", line=line)
        for text, part in (
            ("rack 0|", "many"), ("rack 41|", "many"), ("rack 3|spill 0 3 0|", "spills"), ("rack 3|spill 0 1 12|", "spills"),
        ):
            self.keeps(desk, errors.BadLog, f"log w {text}", part=part)
            self.keeps(desk, errors.BadLog, f"log new {text}", part=part)
        self.tells(desk, "show w", TEXT)

    def test_16_2_names_of_which_there_is_no_log(self):
        desk = kept()
        for line in (
            "drop x", "show x", "can x -", "can x 9:9", "word x - 0 0", "word x 9:9 9 9", "bar x -", "price x 0 0",
            "price x 99 99", "utmost x", "depth x", "count x", "hands x 1:0,0:1",
        ):
            self.keeps(desk, errors.NoName, line, name="x")
        desk.tell("drop w")
        self.keeps(desk, errors.NoName, "show w", name="w")

    def test_16_2_claims_that_are_none(self):
        desk = kept()
        for claims in ("1:0,0:1", "0:0,0:0", "0:0,0:1", "0:0,1:0", "3:0", "0:3", "0:0,1:1,2:2,3:3", "999999999:0"):
            for line in (f"can w {claims}", f"bar w {claims}", f"hands w {claims}"):
                self.keeps(desk, errors.NoClaims, line)
            for line in (f"word w {claims} 0 0", f"word w {claims} 9 9"):
                self.keeps(desk, errors.NoClaims, line)

    def test_16_2_what_the_functions_raise(self):
        desk = kept()
        self.keeps(desk, errors.Barred, "word w 2:0 0 0")
        self.keeps(desk, errors.Barred, "word w 2:0 9 9")
        self.keeps(desk, errors.NoVial, "word w - 3 0")
        self.keeps(desk, errors.NoVial, "word w - 3 3")
        self.keeps(desk, errors.NoPlace, "word w - 0 3")
        self.keeps(desk, errors.NoCut, "price w 4 0")
        self.keeps(desk, errors.NoCut, "price w 0 4")
        self.keeps(desk, errors.TooMany, "count other", most=8)

    def test_16_2_a_line_feed_is_told_ahead_of_all_else(self):
        desk = kept()
        for line in ("log w rack 0|\n", "drop x\n", "can w 9:9\n", "price x 9 9\n", "log w rack 3|\nrack 3|"):
            self.keeps(desk, errors.NoLine, line)


if __name__ == "__main__":
    unittest.main()
