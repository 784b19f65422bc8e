"""Texts read: logs, claims and histories."""

from walkingcut.claims import check_claims
from walkingcut.errors import BadText
from walkingcut.histories import check_history
from walkingcut.logs import Log

MOST_FIGURES = 9

# The forms of lines: the word ahead, and how many integers stand behind it; None for one or more.
RACK = ("rack", 1)
SPILL = ("spill", 3)
CLAIM = ("claim", 2)
ROW = ("row", None)


def number_in(text):
    """The integer that a text is, without sign and needless zeros; None for another text."""
    if not text.isdecimal() or len(text) > MOST_FIGURES or str(int(text)) != text:
        return None
    return int(text)


def numbers_in(line, form):
    """The tuple of the integers in a line of a form, None for a line of another one."""
    word, count = form
    ahead, *behind = line.split(" ")
    numbers = tuple([number_in(part) for part in behind])
    if ahead != word or not numbers or None in numbers:
        return None
    return numbers if count is None or len(numbers) == count else None


def lines_in(text, first_form, form):
    """The tuple of the integers of each line, the first line being of one form, all others of another one."""
    if not isinstance(text, str):
        raise BadText(0)
    *lines, rest = text.split("\n")
    found = []
    for at, line in enumerate(lines):
        numbers = numbers_in(line, form if at > 0 else first_form)
        if numbers is None:
            raise BadText(at + 1)
        found.append(numbers)
    if rest != "":
        raise BadText(len(lines) + 1)
    return tuple(found)


def read_log(text):
    """The log that a text tells."""
    lines = lines_in(text, RACK, SPILL)
    if not lines:
        raise BadText(1)
    return Log(lines[0][0], lines[1:])


def read_claims(log, text):
    """The claims that a text tells."""
    claims = lines_in(text, CLAIM, CLAIM)
    check_claims(log, claims)
    return claims


def read_history(log, text):
    """The history that a text tells."""
    history = lines_in(text, ROW, ROW)
    check_history(log, history)
    return history
