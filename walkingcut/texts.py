"""Texts: logs, claims and histories written in lines."""

from walkingcut.claims import check_claims
from walkingcut.histories import check_history


def lines_of(word, parts):
    """A line for each of some tuples of integers, with a word ahead of them."""
    return "".join([" ".join([word] + [str(number) for number in part]) + "\n" for part in parts])


def log_text(log):
    """The text of a log."""
    return lines_of("rack", [(log.many,)]) + lines_of("spill", log.spills)


def claims_text(log, claims):
    """The text of claims."""
    check_claims(log, claims)
    return lines_of("claim", claims)


def history_text(log, history):
    """The text of a history."""
    check_history(log, history)
    return lines_of("row", history)
