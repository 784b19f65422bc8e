"""A desk: logs kept by name, asked line by line."""

from walkingcut.claims import bar, can_be
from walkingcut.counting import many_arrangements
from walkingcut.cuts import least_price
from walkingcut.depths import depth, depth_for_all
from walkingcut.errors import NoLine, NoName, NothingDone
from walkingcut.hands import must_hands
from walkingcut.reading import number_in, read_log
from walkingcut.telling import word
from walkingcut.texts import log_text
from walkingcut.utmosts import utmost

LETTERS = "abcdefghijklmnopqrstuvwxyz"
MOST_LETTERS = 8


def listed(parts, blank):
    """Some parts with a blank, or another sign, between; "none" if there are none."""
    return blank.join([str(part) for part in parts]) if parts else "none"


def told_show(log):
    """The text of a log in one line."""
    return log_text(log).replace("\n", "|")


def told_can(log, claims):
    """Whether claims can be true."""
    return "yes" if can_be(log, claims) else "no"


def told_word(log, claims, vial, place):
    """How sure it is that a vial is in a place."""
    return word(log, claims, vial, place)


def told_bar(log, claims):
    """The cuts of a bar."""
    return listed(bar(log, claims), " ")


def told_price(log, begin, end):
    """The least price from one cut to another one."""
    return str(least_price(log, begin, end))


def told_utmost(log):
    """The vials of the utmost arrangement."""
    return listed(utmost(log), " ")


def told_depth(log):
    """How many claims must be held side by side, of some vials and of all."""
    return f"{depth(log)} {depth_for_all(log)}"


def told_count(log):
    """The number of the arrangements that can come."""
    return str(many_arrangements(log))


def told_hands(log, claims):
    """The hands that must have mixed."""
    return listed(must_hands(log, claims), ",")


def name_in(text):
    """The name that a text is, None for another text."""
    if not 1 <= len(text) <= MOST_LETTERS or not all([sign in LETTERS for sign in text]):
        return None
    return text


def claims_in(text):
    """The tuple of the pairs of integers that a text tells, None for another text."""
    if text == "-":
        return ()
    pairs = [tuple([number_in(part) for part in pair.split(":")]) for pair in text.split(",")]
    if not all([len(pair) == 2 and None not in pair for pair in pairs]):
        return None
    return tuple(pairs)


# What a line can begin with, but for log lines, and what the words behind that are.
FORMS = {
    "names": (), "undo": (), "drop": ("name",), "show": ("name",), "utmost": ("name",), "depth": ("name",),
    "count": ("name",), "can": ("name", "claims"), "bar": ("name", "claims"), "hands": ("name", "claims"),
    "price": ("name", "number", "number"), "word": ("name", "claims", "number", "number"),
}
ANSWERS = {
    "show": told_show, "can": told_can, "word": told_word, "bar": told_bar, "price": told_price, "utmost": told_utmost,
    "depth": told_depth, "count": told_count, "hands": told_hands,
}


def part_read(kind, text):
    """What a word of a kind tells, None for what is no such word."""
    if kind == "name":
        return name_in(text)
    return claims_in(text) if kind == "claims" else number_in(text)


def parts_read(begin, line):
    """What stands in a line behind the word that it begins with, None for each part that is none."""
    if begin == "log":
        # The text may have blanks wherever it likes: what is wrong with them is told when it is read as a log.
        name, _, text = line[len("log "):].partition(" ")
        return [name_in(name), text.replace("|", "\n") if text else None]
    words = line.split(" ")[1:]
    if begin not in FORMS or len(FORMS[begin]) != len(words):
        return [None]
    return [part_read(kind, text) for kind, text in zip(FORMS[begin], words)]


def line_read(line):
    """The word that a line begins with, and the list of what stands behind it."""
    if not isinstance(line, str) or "\n" in line:
        raise NoLine()
    begin = line.split(" ")[0]
    parts = parts_read(begin, line)
    if any([part is None for part in parts]):
        raise NoLine()
    return begin, parts


class Desk:
    """Logs by name."""

    def __init__(self):
        self._logs = {}
        # For each log or drop line that can be taken back its name, and the log of this name ahead of it, or None.
        self._past = []

    def tell(self, line):
        """Does a line, and tells what comes of it."""
        begin, parts = line_read(line)
        if begin == "names":
            return listed(sorted(self._logs), " ")
        if begin == "undo":
            return self._undone()
        name, *rest = parts
        if begin == "log":
            return self._kept(name, read_log(rest[0]))
        if name not in self._logs:
            raise NoName(name)
        if begin == "drop":
            return self._kept(name, None)
        log = self._logs[name]
        answer = ANSWERS[begin]
        return answer(log, *rest)

    def undoable(self):
        """How many lines can be taken back."""
        return len(self._past)

    def _put(self, name, log):
        if log is None:
            del self._logs[name]
        else:
            self._logs[name] = log

    def _kept(self, name, log):
        """Keeps a log, or none, under a name, in a way that can be taken back."""
        self._past.append((name, self._logs.get(name)))
        self._put(name, log)
        return "ok"

    def _undone(self):
        """Takes back the last log or drop line that is not taken back."""
        if not self._past:
            raise NothingDone()
        name, log = self._past.pop()
        self._put(name, log)
        return "ok"
