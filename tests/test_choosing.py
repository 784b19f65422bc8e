"""Point 8.3."""

import itertools
import random
import unittest

from tests.support import (
    Case, W, all_small_logs, big_log, big_logs, coming, each_top, in_order, sorts_home, spoiled,
)
from walkingcut import errors
from walkingcut.choosing import either, many_either
from walkingcut.logs import Log, behind

CHOICES = ((0, (0, 1)), (2, (1, 2)))
# What is spoiled by a smaller number may be right again.
NO_CHOICES = [
    thing for thing in spoiled(CHOICES)
    if thing not in (((1, (0, 1)), (2, (1, 2))), ((0, (0, 1)), (1, (1, 2))), ((0, (0, 1)), (2, (0, 2)))) and thing != ()
] + [
    ((2, (0,)), (0, (1,))), ((0, (0,)), (0, (1,))), ((0, (0,)), (0, (0,))), ((0, ()),), ((0, (1, 0)),), ((0, (1, 1)),),
    ((0, (3,)),), ((3, (0,)),), ((-1, (0,)),), ((0, (-1,)),), ((0, 0),), ((0, [0]),), ([0, (0,)],), [(0, (0,))],
    ((0, (0,), (1,)),), ((0,),), (((0,), 0),), ((True, (0,)),), ((0, (True,)),), ((0, (False, 1)),), ((0, (0, True)),),
    ((0, "0"),), ("00",), (0, (0,)), {0: (0,)}, ((0, {0: 1}),), ((0, range(2)),), ((0, None),), None,
]


def by_words(rows, choices):
    """The ascending list of all claims that choose and that some row has."""
    vials = [vial for vial, _ in choices]
    found = []
    for places in itertools.product(*[places for _, places in choices]):
        if any(all(row[place] == vial for vial, place in zip(vials, places)) for row in rows):
            found.append(tuple(zip(vials, places)))
    return sorted(found)


def all_lots(many):
    return [lot for count in range(1, many + 1) for lot in itertools.combinations(range(many), count)]


class ChoosingTest(Case):
    def check(self, log, rows, choices):
        right = by_words(rows, choices)
        self.assertEqual(either(log, choices), right[0] if right else None)
        self.assertEqual(many_either(log, choices), len(right))

    def test_8_3_small_racks_gone_through(self):
        for log in all_small_logs()[::6] + each_top(4)[::5]:
            rows = coming(log)
            for count in range(min(log.many, 2) + 1):
                for vials in itertools.combinations(range(log.many), count):
                    for lots in itertools.product(all_lots(log.many), repeat=count):
                        self.check(log, rows, tuple(zip(vials, lots)))

    def test_8_3_choices_of_more_vials(self):
        chance = random.Random(1)
        for log in each_top(4)[::3] + each_top(5)[::9] + [big_log(seed, 6, 6, 4) for seed in range(6)]:
            rows = coming(log)
            for _ in range(25):
                vials = sorted(chance.sample(range(log.many), chance.randrange(log.many + 1)))
                choices = tuple((vial, tuple(sorted(chance.sample(range(log.many), chance.choice((1, 2, 3)))))) for vial in vials)
                self.check(log, rows, choices)

    def test_8_3_no_choices(self):
        for log in (Log(1, ()), W, Log(40, ((0, 39, 0),))):
            self.assertEqual(either(log, ()), ())
            self.assertEqual(many_either(log, ()), 1)

    def test_8_3_two_vials_with_the_same_single_place(self):
        mixed = Log(3, ((0, 2, 0),))
        self.assertIsNone(either(mixed, ((0, (1,)), (2, (1,)))))
        self.assertEqual(many_either(mixed, ((0, (1,)), (2, (1,)))), 0)
        self.assertEqual(either(mixed, ((0, (1,)), (2, (1, 2)))), ((0, 1), (2, 2)))
        self.assertIsNone(either(mixed, ((0, (1, 2)), (1, (1, 2)), (2, (1, 2)))))

    def test_8_3_the_least_is_of_those_that_can_be_true(self):
        self.assertEqual(either(W, ((0, (1, 2)), (2, (0, 1)))), ((0, 2), (2, 1)))
        self.assertEqual(many_either(W, ((0, (1, 2)), (2, (0, 1)))), 1)
        self.assertIsNone(either(W, ((0, (1, 2)), (1, (1, 2)))))
        self.assertIsNone(either(W, ((2, (0,)),)))
        self.assertEqual(many_either(W, ((2, (0,)),)), 0)
        self.assertEqual(either(Log(1, ()), ((0, (0,)),)), ((0, 0),))

    def test_8_3_two_thousand_ways_and_more(self):
        mixed = Log(40, ((0, 39, 0),))
        right = ((0, tuple(range(40))), (1, tuple(range(25))), (2, (0, 39)))
        self.assertEqual(many_either(mixed, right), sum(
            len({first, second, third}) == 3 for first in range(40) for second in range(25) for third in (0, 39)
        ))
        self.assertEqual(either(mixed, right), ((0, 0), (1, 1), (2, 39)))
        still = Log(40, ())
        self.assertEqual(either(still, right), None)
        self.assertEqual(many_either(still, ((0, tuple(range(40))), (1, tuple(range(25))), (2, (2, 39)))), 1)
        for choices in (
            ((0, tuple(range(29))), (1, tuple(range(23))), (2, (0, 1, 2))),
            ((0, tuple(range(40))), (1, tuple(range(40))), (2, (0, 39))),
            tuple((vial, tuple(range(40))) for vial in range(40)),
            tuple((vial, (0, 1)) for vial in range(11)),
            ((0, (0,)), (1, (0,))) + tuple((vial, (0, 1)) for vial in range(2, 13)),
        ):
            for log in (mixed, still):
                self.refuses(errors.TooMany, either, log, choices, most=2000)
                self.refuses(errors.TooMany, many_either, log, choices, most=2000)
        # Choices of one place each make no more ways.
        single = tuple((vial, (vial,)) for vial in range(40))
        self.assertEqual(either(still, ((0, tuple(range(40))), (1, tuple(range(25))), (2, (2, 39))) + single[3:]),
                         tuple((vial, vial) for vial in range(40)))
        self.assertEqual(many_either(still, single), 1)

    def test_8_3_no_choices_goes_before_too_many(self):
        choices = tuple((vial, tuple(range(40))) for vial in range(40))
        for wrong in (choices + ((40, (0,)),), choices[::-1], list(choices), choices[:39] + ((39, ()),)):
            self.refuses(errors.NoChoices, either, Log(40, ()), wrong)
            self.refuses(errors.NoChoices, many_either, Log(40, ()), wrong)

    def test_8_3_large_racks(self):
        logs = big_logs() + [behind(big_log(1, spills=60, widest=2), big_log(2, spills=60, widest=2))]
        for seed, log in enumerate(logs):
            chance = random.Random(seed)
            for count in (1, 3, 6):
                vials = sorted(chance.sample(range(40), count))
                choices = tuple(
                    (vial, tuple(sorted({min(39, max(0, vial + chance.randrange(-2, 3))) for _ in range(3)}))) for vial in vials
                )
                right = [
                    tuple(zip(vials, places)) for places in itertools.product(*[places for _, places in choices])
                    if len(set(places)) == count and sorts_home(log, in_order(40, tuple(zip(vials, places))))
                ]
                self.assertEqual(many_either(log, choices), len(right))
                self.assertEqual(either(log, choices), min(right, default=None))

    def test_8_3_what_no_choices_are(self):
        for thing in NO_CHOICES:
            self.refuses(errors.NoChoices, either, W, thing)
            self.refuses(errors.NoChoices, many_either, W, thing)


if __name__ == "__main__":
    unittest.main()
