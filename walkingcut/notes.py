"""Notes: how the rack stood behind some of the spills."""

from walkingcut.comparing import stretch
from walkingcut.errors import Barred, NoNotes
from walkingcut.kinds import check_vial, is_within
from walkingcut.logs import home, is_arrangement, log_of
from walkingcut.sorting import history_between


def is_note(log, thing):
    """Whether a thing is a pair of a number of spills and an arrangement."""
    if not isinstance(thing, tuple) or len(thing) != 2:
        return False
    return is_within(thing[0], 0, len(log.spills)) and is_arrangement(log, thing[1])


def are_notes(log, thing):
    """Whether a thing is a tuple of notes, their numbers ascending."""
    if not isinstance(thing, tuple) or not all([is_note(log, part) for part in thing]):
        return False
    numbers = [number for number, _ in thing]
    return numbers == sorted(set(numbers))


def histories_between(log, notes):
    """For each note a history that leads to it from the one ahead of it, or None where there is none."""
    if not are_notes(log, notes):
        raise NoNotes()
    known = ((0, home(log)),) + notes
    return [
        history_between(log_of(log.many, log.spills[begin:end]), start, goal)
        for (begin, start), (end, goal) in zip(known, notes)
    ]


def last_known(log, notes):
    """The last arrangement that right notes tell, and the log of the spills behind it."""
    number, arrangement = notes[-1] if notes else (0, home(log))
    return arrangement, log_of(log.many, log.spills[number:])


def are_right(log, notes):
    """Whether some history has all notes."""
    return first_wrong(log, notes) is None


def first_wrong(log, notes):
    """The place of the first note with which those up to it are not right, or None."""
    for at, part in enumerate(histories_between(log, notes)):
        if part is None:
            return at
    return None


def history_noted(log, notes):
    """A history that has all notes, or None."""
    parts = histories_between(log, notes)
    if any([part is None for part in parts]):
        return None
    arrangement, rest = last_known(log, notes)
    untouched = [arrangement[first:last + 1] for first, last, _ in rest.spills]
    return tuple([row for part in parts for row in part] + untouched)


def noted_places(log, notes, vial):
    """The lot of the places where a vial can be at the end if the notes are right."""
    if not are_right(log, notes):
        raise Barred()
    check_vial(log, vial)
    arrangement, rest = last_known(log, notes)
    least, most = stretch(rest, arrangement.index(vial))
    return tuple(range(least, most + 1))
