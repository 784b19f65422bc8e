"""Point 13.2 and the ninth fact."""

import itertools
import random
import unittest

from tests.support import Case, deep, small_logs, spoiled
from walkingcut import errors
from walkingcut.among import bar_among, is_bar_among, most_among, ways_among
from walkingcut.claims import can_be
from walkingcut.logs import Log
from walkingcut.mixings import Mixing, as_mixing

THREE = Mixing(3, ((0, 2), (1, 2)))


def lots_of(many, least=0):
    return [lot for count in range(least, many + 1) for lot in itertools.combinations(range(many), count)]


def all_mixings(many, most):
    """All mixings of a rack with at most so many lots."""
    lots = lots_of(many, 2)
    return [Mixing(many, told) for count in range(most + 1) for told in itertools.product(lots, repeat=count)]


def random_mixing(chance, many, count, largest):
    lots = tuple(
        tuple(sorted(chance.sample(range(many), chance.randrange(2, min(many, largest) + 1)))) for _ in range(count)
    )
    return Mixing(many, lots)


def coming(mixing):
    """The set of the rows that can come: all orders of each lot are gone through."""
    found = {tuple(range(mixing.many))}
    for lot in mixing.lots:
        further = set()
        for row in found:
            for order in itertools.permutations(lot):
                cells = list(row)
                for place, source in zip(lot, order):
                    cells[place] = row[source]
                further.add(tuple(cells))
        found = further
    return found


def all_ways(mixing):
    """All ways of a mixing, by the words."""
    found = [(place,) for place in range(mixing.many)]
    for lot in mixing.lots:
        found = [way + (place,) for way in found for place in (lot if way[-1] in lot else (way[-1],))]
    return found


def is_way(mixing, way):
    return type(way) is tuple and len(way) == len(mixing.lots) + 1 and all(
        (here in lot and there in lot) or (here == there and here not in lot)
        for lot, here, there in zip(mixing.lots, way, way[1:])
    )


def bars(mixing, vials, places, stays):
    """Whether each way from a vial's first place to one of the places has one of the stays."""
    return all(
        any(stay in stays for stay in enumerate(way))
        for way in all_ways(mixing) if way[0] in vials and way[-1] in places
    )


def leads_past(mixing, vials, places, stays):
    """Whether a way has none of the stays, step by step, also in large racks."""
    here = {vial for vial in vials if (0, vial) not in stays}
    for number, lot in enumerate(mixing.lots):
        there = {place for place in here if place not in lot} | {place for place in lot if here & set(lot)}
        here = {place for place in there if (number + 1, place) not in stays}
    return bool(here & set(places))


class AmongTest(Case):
    def check(self, mixing, vials, places, most):
        """All three results, if it is known how many vials can stand there."""
        self.assertEqual(most_among(mixing, vials, places), most)
        self.check_found(mixing, vials, places)

    def check_found(self, mixing, vials, places):
        """By their descriptions: as many ways and stays show that the number is right, too."""
        most = most_among(mixing, vials, places)
        self.assertIs(type(most), int)
        ways = ways_among(mixing, vials, places)
        self.assertIs(type(ways), list)
        self.assertEqual(len(ways), most)
        self.assertEqual(ways, sorted(ways))
        self.assertTrue(all(is_way(mixing, way) and way[0] in vials and way[-1] in places for way in ways))
        for number in range(len(mixing.lots) + 1):
            self.assertEqual(len({way[number] for way in ways}), len(ways))
        bar = bar_among(mixing, vials, places)
        self.assertIs(type(bar), tuple)
        self.assertEqual(len(bar), most)
        self.assertEqual(list(bar), sorted(set(bar)))
        for stay in bar:
            self.assertIs(type(stay), tuple)
            number, place = stay
            self.assertTrue(0 <= number <= len(mixing.lots) and 0 <= place < mixing.many)
        self.assertFalse(leads_past(mixing, vials, places, set(bar)))
        self.judges(True, is_bar_among, mixing, vials, places, bar)

    def test_13_2_small_mixings_gone_through(self):
        for mixing in all_mixings(1, 0) + all_mixings(2, 3) + all_mixings(3, 2):
            rows = coming(mixing)
            for vials, places in itertools.product(lots_of(mixing.many), repeat=2):
                most = max(sum(row[place] in vials for place in places) for row in rows)
                self.check(mixing, vials, places, most)

    def test_13_2_mixings_of_four_and_five(self):
        chance = random.Random(1)
        for mixing in chance.sample(all_mixings(4, 3), 60) + [random_mixing(chance, 5, 4, 3) for _ in range(15)]:
            rows = coming(mixing)
            for vials, places in chance.sample(list(itertools.product(lots_of(mixing.many), repeat=2)), 20):
                most = max(sum(row[place] in vials for place in places) for row in rows)
                self.check(mixing, vials, places, most)

    def test_13_2_the_ninth_fact(self):
        chance = random.Random(2)
        mixings = all_mixings(2, 2) + all_mixings(3, 1) + chance.sample(all_mixings(3, 2), 8)
        for mixing in mixings + [Mixing(4, ((0, 2), (1, 3)))]:
            stays = list(itertools.product(range(len(mixing.lots) + 1), range(mixing.many)))
            ways = all_ways(mixing)
            for vials, places in chance.sample(list(itertools.product(lots_of(mixing.many), repeat=2)), 12):
                right = [way for way in ways if way[0] in vials and way[-1] in places]
                greatest = max(
                    len(part) for count in range(mixing.many + 1) for part in itertools.combinations(right, count)
                    if all(len(set(moment)) == len(part) for moment in zip(*part))
                )
                least = min(
                    count for count in range(mixing.many + 1)
                    if any(bars(mixing, vials, places, part) for part in itertools.combinations(stays, count))
                )
                self.assertEqual(greatest, least)
                self.check(mixing, vials, places, greatest)

    def test_13_2_told_ones(self):
        self.check(THREE, (0,), (0, 1, 2), 1)
        self.check(THREE, (0, 1), (1, 2), 2)
        self.check(THREE, (0, 2), (0, 1), 2)
        self.check(THREE, (1,), (0,), 0)
        # All goes by one place at one moment.
        narrow = Mixing(5, ((0, 1, 2), (2, 3), (3, 4)))
        self.check(narrow, (0, 1, 2), (3, 4), 1)
        self.assertEqual(most_among(Mixing(5, ((0, 1, 2), (2, 3), (0, 2), (2, 4))), (0, 1, 2), (3, 4)), 2)
        # One way must give way to another one.
        self.check(Mixing(4, ((0, 1), (0, 2), (1, 3))), (0, 1), (2, 3), 2)
        self.check(Mixing(4, ((1, 2), (0, 1), (2, 3))), (0, 1), (1, 3), 2)

    def test_13_2_no_vials_no_places_and_all(self):
        chance = random.Random(3)
        large = [random_mixing(chance, 20, 40, 5), Mixing(20, ((0, 19),) * 40), Mixing(20, ())]
        for mixing in [Mixing(1, ()), THREE] + large:
            all_of = tuple(range(mixing.many))
            for vials, places in (((), ()), ((), all_of), (all_of, ())):
                self.check(mixing, vials, places, 0)
                self.assertEqual(ways_among(mixing, vials, places), [])
                self.assertEqual(bar_among(mixing, vials, places), ())
                self.judges(True, is_bar_among, mixing, vials, places, ())
            self.check(mixing, all_of, all_of, mixing.many)
            self.check(mixing, all_of, all_of[:1], 1)
            self.check(mixing, all_of[:1], all_of, 1)

    def test_13_2_no_lots(self):
        for vials, places in itertools.product(lots_of(4), repeat=2):
            both = sorted(set(vials) & set(places))
            self.check(Mixing(4, ()), vials, places, len(both))
            self.assertEqual(ways_among(Mixing(4, ()), vials, places), [(place,) for place in both])
            self.assertEqual(bar_among(Mixing(4, ()), vials, places), tuple((0, place) for place in both))

    def test_13_2_large_mixings(self):
        chance = random.Random(4)
        for largest in (2, 3, 5, 20):
            for count in (5, 15, 40):
                mixing = random_mixing(chance, 20, count, largest)
                for _ in range(3):
                    vials = tuple(sorted(chance.sample(range(20), chance.randrange(1, 20))))
                    places = tuple(sorted(chance.sample(range(20), chance.randrange(1, 20))))
                    self.check_found(mixing, vials, places)

    def test_13_2_neighbours_lead_one_way(self):
        steps = Mixing(20, tuple((place, place + 1) for place in range(19)))
        self.check(steps, (0,), (19,), 1)
        self.check(steps, (0, 1, 2), (17, 18, 19), 1)
        self.check(Mixing(20, steps.lots[::-1]), (0, 1, 2), (17, 18, 19), 0)
        self.check(Mixing(20, (steps.lots + steps.lots)[:40]), (0, 1, 2), (17, 18, 19), 2)

    def test_13_2_stretches_lead_as_claims_about_one_vial_do(self):
        for log in small_logs(3, 3) + small_logs(4, 2):
            mixing = as_mixing(log)
            for vial, place in itertools.product(range(log.many), repeat=2):
                self.assertEqual(most_among(mixing, (vial,), (place,)) == 1, can_be(log, ((vial, place),)))


class BarTest(Case):
    def test_13_2_all_tuples_of_stays_of_small_mixings(self):
        for mixing in [Mixing(2, ()), Mixing(2, ((0, 1),)), Mixing(3, ((0, 2),)), Mixing(2, ((0, 1), (0, 1)))]:
            stays = sorted(itertools.product(range(len(mixing.lots) + 1), range(mixing.many)))
            parts = [part for count in range(len(stays) + 1) for part in itertools.combinations(stays, count)]
            for vials, places in itertools.product(lots_of(mixing.many), repeat=2):
                for part in parts:
                    self.judges(bars(mixing, vials, places, part), is_bar_among, mixing, vials, places, part)

    def test_13_2_some_tuples_of_stays_of_others(self):
        chance = random.Random(5)
        seen = []
        for _ in range(400):
            mixing = random_mixing(chance, chance.randrange(3, 6), chance.randrange(4), 3)
            vials, places = chance.choice(lots_of(mixing.many)), chance.choice(lots_of(mixing.many))
            stays = [(number, place) for number in range(len(mixing.lots) + 1) for place in range(mixing.many)]
            part = tuple(stay for stay in stays if chance.random() < 0.6)
            told = bars(mixing, vials, places, part)
            seen.append(told)
            self.judges(told, is_bar_among, mixing, vials, places, part)
        self.assertTrue(60 < sum(seen) < 340)

    def test_13_2_a_bar_is_none_for_other_vials(self):
        chance = random.Random(6)
        for _ in range(30):
            mixing = random_mixing(chance, 20, 20, 4)
            vials = tuple(sorted(chance.sample(range(20), 5)))
            places = tuple(sorted(chance.sample(range(20), 5)))
            bar = bar_among(mixing, vials, places)
            all_of = tuple(range(20))
            self.judges(not leads_past(mixing, all_of, places, set(bar)), is_bar_among, mixing, all_of, places, bar)
            for gone in range(len(bar)):
                # As few as can be are needed, so that none can go.
                self.judges(False, is_bar_among, mixing, vials, places, bar[:gone] + bar[gone + 1:])

    def test_13_2_told_ones(self):
        self.judges(True, is_bar_among, THREE, (0,), (1,), ((0, 0),))
        self.judges(True, is_bar_among, THREE, (0,), (1,), ((0, 0), (1, 1), (2, 2)))
        self.judges(True, is_bar_among, THREE, (0,), (1,), ((1, 2),))
        self.judges(True, is_bar_among, THREE, (0,), (1,), ((2, 1),))
        self.judges(False, is_bar_among, THREE, (0,), (1,), ((1, 0),))
        self.judges(False, is_bar_among, THREE, (0,), (1,), ())
        self.judges(True, is_bar_among, THREE, (1,), (0,), ())
        everywhere = tuple(itertools.product(range(3), range(3)))
        self.judges(True, is_bar_among, THREE, (0, 1, 2), (0, 1, 2), everywhere)

    def test_13_2_what_no_bars_are(self):
        for thing in (
            ((2, 1), (0, 0)), ((0, 0), (0, 0)), ((3, 0),), ((0, 3),), ((-1, 0),), ((0, -1),), ((0,),), ((0, 0, 0),),
            ((),), ([0, 0],), [(0, 0)], (0, 0), ((False, 0),), ((0, False),), ((0, 0), (True, 0)), ((0, 0), None),
            (None,), None, 0, "00", ("00",), {(0, 0): 0}, {}, [], "", b"", range(0), ((0, 0), (0, 10 ** 39)),
            ((0, 0), (1, 1), (2, 2), (3, 3)), deep(40), deep(40, list), deep(40, dict), ((0, 0), deep(39)),
            ((0, 0),) * 3000, tuple((0, place) for place in range(3000)),
        ):
            self.judges(False, is_bar_among, THREE, (0,), (1,), thing)
            if thing != ():
                self.judges(False, is_bar_among, THREE, (), (), thing)
        for thing in spoiled(((0, 0), (1, 2))):
            self.judges(False, is_bar_among, THREE, (0,), (1,), thing)

    def test_13_2_refuses(self):
        right = ((0, 0),)
        for thing in spoiled((0, 2)) + [
            (2, 0), (0, 0), (3,), (0, 3), (-1,), (True,), (False, 1), [0], {0: 1}, "0", None, 0, range(2),
        ]:
            if repr(thing) != "()":
                for function in (most_among, ways_among, bar_among):
                    self.refuses(errors.NoVials, function, THREE, thing, (0,))
                    self.refuses(errors.NoVials, function, THREE, thing, None)
                    self.refuses(errors.NoPlaces, function, THREE, (0,), thing)
                self.refuses(errors.NoVials, is_bar_among, THREE, thing, (0,), right)
                self.refuses(errors.NoVials, is_bar_among, THREE, thing, None, None)
                self.refuses(errors.NoPlaces, is_bar_among, THREE, (0,), thing, right)
                self.refuses(errors.NoPlaces, is_bar_among, THREE, (0,), thing, None)

    def test_0_4_the_list_is_new_and_equal_calls_give_equal_answers(self):
        again = Mixing(3, ((0, 2), (1, 2)))
        ways = ways_among(THREE, (0, 1), (1, 2))
        self.assertEqual(ways, ways_among(again, (0, 1), (1, 2)))
        self.assertEqual(bar_among(THREE, (0, 1), (1, 2)), bar_among(again, (0, 1), (1, 2)))
        ways.clear()
        self.assertEqual(len(ways_among(THREE, (0, 1), (1, 2))), 2)
        self.assertEqual((THREE.many, THREE.lots), (3, ((0, 2), (1, 2))))

    def test_0_5_a_mixing_that_was_returned(self):
        mixing = as_mixing(Log(20, ((0, 10, 0), (9, 19, 1)) * 20))
        self.assertEqual(most_among(mixing, tuple(range(11)), tuple(range(9, 20))), 11)


if __name__ == "__main__":
    unittest.main()
