"""What the tests rest on: racks gone through whole by the document's words, and things of all kinds.

Nothing here asks the program for an answer: only its classes, the attributes of Log, and behind are used.
"""

import itertools
import math
import random
import unittest

from walkingcut import errors
from walkingcut.audits import Audit
from walkingcut.desk import Desk
from walkingcut.logs import Log, behind
from walkingcut.mixings import Mixing

W = Log(3, ((0, 1, 0), (1, 2, 1)))


def perms(many):
    return list(itertools.permutations(range(many)))


def small_logs(many, most):
    """All logs of a rack with at most so many spills, the hands told by the stretches."""
    stretches = [(first, last, (first + 5 * last) % 12) for last in range(many) for first in range(last)]
    return [Log(many, spills) for count in range(most + 1) for spills in itertools.product(stretches, repeat=count)]


def all_small_logs():
    """Logs of the racks of 1 to 4 places, each rack with all logs of a few spills."""
    return small_logs(1, 2) + small_logs(2, 3) + small_logs(3, 3) + small_logs(4, 2)


def some_small_logs():
    """Fewer of them, for what takes long."""
    return small_logs(1, 1) + small_logs(2, 2) + small_logs(3, 3)[::2] + small_logs(4, 2)[::3] + small_logs(4, 3)[50::40]


def big_log(seed, many=40, spills=100, widest=40):
    chance = random.Random(seed)
    found = []
    for _ in range(spills):
        first = chance.randrange(many - 1)
        found.append((first, chance.randrange(first + 1, min(many, first + widest)), chance.randrange(12)))
    return Log(many, tuple(found))


def big_logs():
    """Logs of the largest rack: few wide spills, many narrow ones, as many as can be, one hand's, none."""
    return [
        big_log(1, spills=3), big_log(2, spills=100, widest=3), big_log(3, spills=30, widest=2),
        big_log(4, spills=40, widest=6), Log(40, ()), Log(40, ((0, 39, 11),)),
        Log(40, tuple((k, k + 1, 0) for k in range(39))),
    ]


def coming(log):
    """The set of the arrangements that can come: all orders of each stretch are gone through."""
    found = {tuple(range(log.many))}
    for first, last, _ in log.spills:
        found = {
            row[:first] + mixed + row[last + 1:]
            for row in found for mixed in itertools.permutations(row[first:last + 1])
        }
    return found


def log_to(row):
    """A log of neighbours spilled, whose utmost arrangement is the told one."""
    cells, spills = list(row), []
    for _ in row:
        for place in range(len(row) - 1):
            if cells[place] > cells[place + 1]:
                cells[place], cells[place + 1] = cells[place + 1], cells[place]
                spills.append((place, place + 1, 0))
    found = Log(len(row), ())
    for at in range(len(spills), 0, -100):
        # A constructed log has no more than a hundred.
        found = behind(found, Log(len(row), tuple(spills[max(0, at - 100):at][::-1])))
    return found


def each_top(many):
    """A log for each arrangement of a rack that an utmost one can be."""
    return [log_to(row) for row in perms(many)]


def utmost_of(log):
    """The arrangement behind each stretch put in descending order."""
    cells = list(range(log.many))
    for first, last, _ in log.spills:
        cells[first:last + 1] = sorted(cells[first:last + 1])[::-1]
    return tuple(cells)


def claims_of(row):
    """The claims about all vials of an arrangement."""
    return tuple(sorted((vial, place) for place, vial in enumerate(row)))


def all_parts(claims):
    return [part for count in range(len(claims) + 1) for part in itertools.combinations(claims, count)]


def true_claims(log):
    """The set of all claims that can be true."""
    return {part for row in coming(log) for part in all_parts(claims_of(row))}


def all_histories(log):
    """The pairs (history, all its arrangements)."""
    found = [((), (tuple(range(log.many)),))]
    for first, last, _ in log.spills:
        found = [
            (history + (row,), rows + (rows[-1][:first] + row + rows[-1][last + 1:],))
            for history, rows in found for row in itertools.permutations(rows[-1][first:last + 1])
        ]
    return found


def all_claims(many):
    """All claims about a rack of so many places."""
    return [
        tuple(zip(vials, places))
        for count in range(many + 1)
        for vials in itertools.combinations(range(many), count)
        for places in itertools.permutations(range(many), count)
    ]


def has_all(arrangement, claims):
    return all(arrangement[place] == vial for vial, place in claims)


def ends_with(log, history):
    """The arrangement behind a history, None for what is no history."""
    if not isinstance(history, tuple) or len(history) != len(log.spills):
        return None
    cells = list(range(log.many))
    for (first, last, _), row in zip(log.spills, history):
        if not isinstance(row, tuple) or sorted(row) != sorted(cells[first:last + 1]):
            return None
        cells[first:last + 1] = row
    return tuple(cells)


def sorts_home(log, arrangement):
    """The first fact's sorting, for racks too large to be gone through."""
    cells = list(arrangement)
    for first, last, _ in reversed(log.spills):
        cells[first:last + 1] = sorted(cells[first:last + 1])
    return cells == list(range(log.many))


def in_order(many, claims):
    """The arrangement that has the claims, and all others in order."""
    cells = [None] * many
    for vial, place in claims:
        cells[place] = vial
    others = [vial for vial in range(many) if vial not in cells]
    return tuple(others.pop(0) if vial is None else vial for vial in cells)


def number_touched(log, history):
    """How many spills of a right history do not put back what stood there."""
    cells, count = list(range(log.many)), 0
    for (first, last, _), row in zip(log.spills, history):
        count += list(row) != cells[first:last + 1]
        cells[first:last + 1] = row
    return count


def is_a_walk(log, thing):
    if not isinstance(thing, tuple) or len(thing) != len(log.spills) + 2:
        return False
    if any(type(cut) is not int or not 0 <= cut <= log.many for cut in thing):
        return False
    return all(cut <= first or cut > last for (first, last, _), cut in zip(log.spills, thing[1:-1]))


def all_walks(log):
    return [
        cuts for cuts in itertools.product(range(log.many + 1), repeat=len(log.spills) + 2) if is_a_walk(log, cuts)
    ]


def left_steps(walk):
    return sum(here - there for here, there in zip(walk, walk[1:]) if there < here)


def number_passing(arrangement, begin, end):
    return sum(1 for place, vial in enumerate(arrangement) if vial < begin and place >= end)


def number_passed(claims, begin, end):
    going = sum(1 for vial, place in claims if vial < begin and place >= end)
    coming_back = sum(1 for vial, place in claims if vial >= begin and place < end)
    return max(going, begin - end + coming_back)


def cheapest_rows(log):
    """For each begin and end the least price, step by step through the log, also for large ones."""
    table = []
    for begin in range(log.many + 1):
        row = [0 if cut == begin else math.inf for cut in range(log.many + 1)]
        for first, last, _ in log.spills:
            row = moved(row)
            row = [math.inf if first < cut <= last else least for cut, least in enumerate(row)]
        table.append(tuple(moved(row)))
    return tuple(table)


def moved(row):
    """The least prices behind a step from each cut to each cut: to the right for nothing, to the left for one each."""
    row = list(row)
    for cut in range(1, len(row)):
        row[cut] = min(row[cut], row[cut - 1])
    for cut in range(len(row) - 2, -1, -1):
        row[cut] = min(row[cut], row[cut + 1] + 1)
    return row


def one_behind(one, other):
    """The tuples of least sums of two tables."""
    sides = range(len(one))
    return tuple(tuple(min(one[b][c] + other[c][e] for c in sides) for e in sides) for b in sides)


def deep(depth, kind=tuple):
    """A thing in which things are nested so many deep, itself counted."""
    thing = kind()
    for _ in range(depth - 1):
        thing = {"in": thing} if kind is dict else kind((thing,))
    return thing


def a_generator():
    yield 0


def not_tuples():
    """Things that are no tuples and no integers, of all kinds."""
    return [
        None, True, False, "", "0", "rack 3\n", b"", b"\x00\x01", bytearray(b"\x00\x01\x02"), memoryview(b"ab"), [],
        [0], [0, 1, 2], [(0, 1, 0)], {}, {0: 1}, {"many": 3}, {(0, 1): 2}, range(3), slice(0, 2), Ellipsis,
        NotImplemented, object(), object, int, tuple, len, deep, a_generator(), iter((0, 1)), zip((0,), (1,)),
        {}.keys(), {0: 1}.items(), (lambda: 0), math, ValueError(1), KeyError("k"), Log, Log(1, ()), W,
        Mixing(3, ((0, 1),)), Audit(W), Audit, Desk(), Desk, errors, errors.CutError, errors.NoLot(),
        errors.BadLog("many"), deep(30, list), deep(30, dict), [None] * 8000, list(range(8000)),
        dict.fromkeys(range(3000)), "x" * 5000,
    ]


def odd_tuples():
    """Tuples that are right nowhere."""
    return [
        (None,), (True,), ("0",), ((),), ([],), ({},), ([0, 1],), (range(2),), (W,), ((W,),), ((None, None),),
        (0, None), deep(30), deep(30) + (0,), (None,) * 8000, ((0, 1, 2, 3),) * 1500, (deep(20, list),) * 300,
    ]


def huge_numbers():
    return [10 ** 40 - 1, 1 - 10 ** 40, 2 ** 64, -1]


def spoiled(right):
    """A right thing, made of tuples and integers from 0 on, with one thing of it, at whatever depth, made wrong.

    An integer gives way to what is none, to a flag, to integers far off; a tuple to a list of the same, to what
    is no tuple, to tuples that are right nowhere.
    """
    if isinstance(right, tuple):
        found = not_tuples() + odd_tuples() + huge_numbers() + [0, 1, list(right), dict(enumerate(right))]
        for at, part in enumerate(right):
            found.extend(right[:at] + (wrong,) + right[at + 1:] for wrong in spoiled(part))
        return found
    return not_tuples() + odd_tuples() + huge_numbers() + [(), (right,), [right], str(right)]


class Case(unittest.TestCase):
    """A test that can ask which error is raised."""

    def refuses(self, error, function, *passed, **fields):
        """Just this error, with just these fields, and what was passed stays as it was."""
        before = [(each.many, each.spills) for each in passed if isinstance(each, Log)]
        try:
            answer = function(*passed)
        except errors.CutError as raised:
            self.assertIs(type(raised), error)
            self.assertEqual({name: getattr(raised, name) for name in fields}, fields)
        else:
            self.fail(f"no {error.__name__}, but {str(answer)[:200]}")
        self.assertEqual([(each.many, each.spills) for each in passed if isinstance(each, Log)], before)

    def judges(self, expected, function, *passed):
        """Just True or just False."""
        self.assertIs(function(*passed), expected)
