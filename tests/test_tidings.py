"""[8.1], [8.2], [8.3] and beaconvale.tidings."""

import random
import unittest
from itertools import product

from beaconvale.errors import BadHour, NoBeacon
from beaconvale.tidings import bounds_hold, earliest, latest, way_holds, way_to
from vales import (
    FAR, fields, refused, row_of_three, slow_earliest, slow_names, slow_sees, slow_table, some_valleys, vale, wall, walls, webs)


def small_valleys(seed):
    return some_valleys(seed, 40) + webs(seed + 1, 12, 5)


def doors(ab, bc):
    """Fogs that leave the hours of ab alone between a and b, those of bc alone between b and c."""
    found = []
    for place, open_hours in ((5, ab), (15, bc)):
        found.extend(wall(place, hour, hour) for hour in range(0, 6) if hour not in open_hours)
    return found


def slow_way_holds(valley, name, hour, way):
    if not way or way[0] != (name, hour, hour):
        return False
    for (ahead, seen_ahead, lit_ahead), (other, seen, lit) in zip(way, way[1:]):
        if other == ahead or other not in slow_names(valley) or not slow_sees(valley, ahead, other, seen):
            return False
        if seen < lit_ahead or lit != seen + valley.delay:
            return False
    return True


def slow_bounds_hold(valley, table, name, hour, bounds):
    names = slow_names(valley)
    if len(bounds) != len(names):
        return False
    told = dict(zip(names, bounds))
    if told[name] is None or told[name] > hour:
        return False
    for one, other in product(names, repeat=2):
        later = [u for u in table[one, other] if told[one] is not None and u >= told[one]]
        if later and (told[other] is None or told[other] > min(later) + valley.delay):
            return False
    return True


class EarliestTest(unittest.TestCase):
    def assert_earliest(self, valley, name, hour, *hours):
        answer = earliest(valley, name, hour)
        self.assertEqual(answer, list(hours), fields(valley))
        self.assertIs(type(answer), list)

    def test_step_by_step(self):
        self.assert_earliest(row_of_three(), "a", 3, 3, 5, 7)
        self.assert_earliest(row_of_three(), "b", 3, 5, 3, 5)
        self.assert_earliest(row_of_three(), "c", 3, 7, 5, 3)
        self.assert_earliest(row_of_three(haze=None), "a", 3, 3, 5, 5)

    def test_delays(self):
        for delay in (0, 1, 2, 7):
            self.assert_earliest(row_of_three(delay=delay), "a", 3, 3, 3 + delay, 3 + 2 * delay)

    def test_waits_for_a_fog_to_go(self):
        valley = row_of_three(fogs=walls(5, (2, 6)) + walls(15, (3, 9)), delay=1)
        self.assert_earliest(valley, "a", 0, 0, 1, 2)
        self.assert_earliest(valley, "a", 1, 1, 2, 3)
        self.assert_earliest(valley, "a", 2, 2, 8, 11)
        self.assert_earliest(valley, "a", 10, 10, 11, 12)
        self.assert_earliest(valley, "c", 2, 8, 3, 2)
        self.assert_earliest(valley, "c", 3, 12, 11, 3)

    def test_a_beacon_stays_lit(self):
        self.assert_earliest(row_of_three(fogs=walls(5, (1, 20)) + walls(15, (0, 18)), delay=1), "a", 0, 0, 1, 20)

    def test_with_no_delay_over_several_steps_in_one_hour(self):
        beacons = [("abcdefghi"[k], 10 * k, 5) for k in (0, 8, 1, 7, 2, 6, 3, 5, 4)]
        self.assert_earliest(vale(beacons, haze=100, delay=0), "a", 4, *[4] * 9)
        fogs = walls(5, (4, 8)) + walls(35, (3, 9)) + walls(75, (10, 12))
        self.assert_earliest(vale(beacons, fogs, 100, delay=0), "a", 4, 4, 13, 9, 10, 9, 10, 9, 10, 10)

    def test_behind_the_last_hour_by_the_delay(self):
        self.assert_earliest(row_of_three(delay=9), "a", 20, 20, 29, None)
        self.assert_earliest(row_of_three(delay=9), "a", 12, 12, 21, None)
        self.assert_earliest(row_of_three(delay=9), "a", 11, 11, 20, 29)
        self.assert_earliest(row_of_three(delay=FAR), "b", 0, FAR, 0, FAR)
        self.assert_earliest(row_of_three(delay=0), "a", 20, 20, 20, 20)

    def test_never(self):
        self.assert_earliest(row_of_three(haze=99), "b", 3, None, 3, None)
        self.assert_earliest(row_of_three(fogs=walls(15, (0, 20))), "a", 3, 3, 5, None)
        self.assert_earliest(row_of_three(fogs=walls(15, (4, 20))), "a", 2, 2, 4, None)
        self.assert_earliest(row_of_three(fogs=walls(15, (5, 20))), "a", 2, 2, 4, 6)
        self.assert_earliest(row_of_three(fogs=walls(5, (3, 20))), "a", 3, 3, None, None)

    def test_a_longer_row_that_is_sooner(self):
        # From a to c straight away only at hour 9.
        valley = vale([("a", 0, 5), ("c", 20, 5), ("b", 10, 9)], [(10, 10, 5, 5, 0, 8, 0, 0)], delay=1)
        self.assert_earliest(valley, "a", 0, 0, 2, 1)
        self.assert_earliest(valley, "a", 9, 9, 10, 10)

    def test_one_beacon(self):
        self.assert_earliest(vale([("a", 0, 5)]), "a", 20, 20)

    def test_hours_of_fifty_figures(self):
        valley = row_of_three(first=-FAR, last=2 * FAR, fogs=walls(5, (4, FAR)) + walls(15, (7, FAR + 9)), delay=FAR // 2)
        self.assert_earliest(valley, "a", 5, 5, FAR + 1 + FAR // 2, FAR + 1 + 2 * (FAR // 2))
        self.assert_earliest(valley, "a", -FAR, -FAR, FAR // 2 - FAR, 2 * (FAR // 2) - FAR)
        self.assert_earliest(valley, "c", 2 * FAR, None, 2 * FAR + FAR // 2, 2 * FAR)

    def test_lighting_hour_by_hour(self):
        for valley in small_valleys(81):
            table = slow_table(valley)
            for name in slow_names(valley):
                for hour in range(valley.first, valley.last + 1):
                    self.assertEqual(
                        earliest(valley, name, hour), slow_earliest(valley, table, name, hour), (fields(valley), name, hour))

    def test_of_nine_beacons(self):
        for valley in webs(83, 2, 9):
            table = slow_table(valley)
            for name in slow_names(valley):
                self.assertEqual(earliest(valley, name, 1), slow_earliest(valley, table, name, 1))

    def test_its_own(self):
        valley = row_of_three()
        told = earliest(valley, "a", 3)
        told.clear()
        self.assert_earliest(valley, "a", 3, 3, 5, 7)


class WayTest(unittest.TestCase):
    def assert_way(self, valley, name, hour, goal):
        way = way_to(valley, name, hour, goal)
        due = earliest(valley, name, hour)[slow_names(valley).index(goal)]
        if due is None:
            self.assertIsNone(way, fields(valley))
            return
        self.assertIs(type(way), list)
        for triple in way:
            self.assertIs(type(triple), tuple)
        self.assertTrue(slow_way_holds(valley, name, hour, way), (fields(valley), way))
        self.assertIs(way_holds(valley, name, hour, way), True)
        self.assertEqual((way[-1][0], way[-1][2]), (goal, due))
        self.assertEqual(len({triple[0] for triple in way}), len(way))

    def test_written_out(self):
        valley = row_of_three(fogs=walls(5, (2, 6)) + walls(15, (3, 9)), delay=1)
        self.assertEqual(way_to(valley, "a", 2, "c"), [("a", 2, 2), ("b", 7, 8), ("c", 10, 11)])
        self.assertEqual(way_to(valley, "a", 0, "c"), [("a", 0, 0), ("b", 0, 1), ("c", 1, 2)])
        self.assertEqual(way_to(valley, "a", 2, "b"), [("a", 2, 2), ("b", 7, 8)])

    def test_to_itself(self):
        for name in "abc":
            self.assertEqual(way_to(row_of_three(delay=0), name, 5, name), [(name, 5, 5)])

    def test_none(self):
        self.assertIsNone(way_to(row_of_three(haze=99), "a", 3, "c"))
        self.assertIsNone(way_to(row_of_three(delay=9), "a", 12, "c"))

    def test_behind_the_last_hour(self):
        self.assertEqual(way_to(row_of_three(delay=9), "a", 11, "c"), [("a", 11, 11), ("b", 11, 20), ("c", 20, 29)])

    def test_hours_of_fifty_figures(self):
        valley = row_of_three(first=-FAR, last=FAR, fogs=walls(5, (-FAR, 7)), delay=3)
        self.assertEqual(way_to(valley, "a", -FAR, "c"), [("a", -FAR, -FAR), ("b", 8, 11), ("c", 11, 14)])

    def test_to_each_beacon(self):
        for valley in small_valleys(84):
            for name, goal in product(slow_names(valley), repeat=2):
                for hour in range(valley.first, valley.last + 1, 3):
                    self.assert_way(valley, name, hour, goal)

    def test_with_no_delay_among_nine(self):
        rng = random.Random(85)
        for turn in range(4):
            beacons = [("abcdefghi"[k], rng.randint(-50, 50), rng.randint(0, 9)) for k in range(9)]
            valley = vale(beacons, [wall(rng.randint(-50, 50), k, 2 * k + 1) for k in range(12)], 900, delay=0)
            for goal in "abcdefghi":
                for hour in (0, 4, 9):
                    self.assert_way(valley, "e", hour, goal)

    def test_its_own(self):
        valley = row_of_three()
        told = way_to(valley, "a", 3, "c")
        told.clear()
        self.assertEqual(way_to(valley, "a", 3, "c"), [("a", 3, 3), ("b", 3, 5), ("c", 5, 7)])


class WayHoldsTest(unittest.TestCase):
    # From a to b at hours 0, 1 and from 7 on, from b to c at hours 0 to 2 and from 10 on.
    VALLEY = row_of_three(fogs=walls(5, (2, 6)) + walls(15, (3, 9)), delay=1)

    def assert_holds(self, way, answer, name="a", hour=2):
        given = list(way)
        self.assertIs(way_holds(self.VALLEY, name, hour, given), answer, way)
        self.assertEqual(given, list(way))

    def test_ways(self):
        for way in (
                [("a", 2, 2)], [("a", 2, 2), ("b", 7, 8)], [("a", 2, 2), ("b", 7, 8), ("c", 10, 11)],
                [("a", 2, 2), ("b", 9, 10), ("c", 10, 11)], [("a", 2, 2), ("b", 20, 21)],
                [("a", 2, 2), ("b", 8, 9), ("c", 20, 21)]):
            self.assert_holds(way, True)

    def test_a_beacon_may_stand_twice_but_not_behind_itself(self):
        self.assert_holds([("a", 2, 2), ("b", 7, 8), ("a", 8, 9), ("b", 9, 10)], True)
        self.assert_holds([("a", 2, 2), ("a", 2, 3)], False)
        self.assert_holds([("a", 2, 2), ("a", 2, 2)], False)
        self.assert_holds([("a", 2, 2), ("b", 7, 8), ("b", 8, 9)], False)

    def test_a_wrong_first_triple(self):
        for first in (
                ("b", 2, 2), ("a", 1, 2), ("a", 2, 3), ("a", 3, 3), ("a", 2, 1), ("a", 1, 1), ("x", 2, 2), ("c", 2, 2),
                ("", 2, 2)):
            self.assert_holds([first], False)
            self.assert_holds([first, ("b", 7, 8)], False)

    def test_the_empty_list(self):
        self.assert_holds([], False)

    def test_a_name_that_is_none(self):
        for name in ("x", "", "A", "a ", "bb"):
            self.assert_holds([("a", 2, 2), (name, 7, 8)], False)
            self.assert_holds([("a", 2, 2), ("b", 7, 8), (name, 10, 11)], False)

    def test_an_hour_too_early(self):
        self.assert_holds([("a", 1, 1), ("b", 1, 2), ("c", 2, 3)], True, hour=1)
        self.assert_holds([("a", 1, 1), ("b", 1, 2), ("c", 1, 2)], False, hour=1)
        self.assert_holds([("a", 1, 1), ("b", 0, 1), ("c", 2, 3)], False, hour=1)
        self.assert_holds([("a", 1, 1), ("b", 0, 1)], False, hour=1)
        self.assert_holds([("a", 8, 8), ("b", 7, 8)], False, hour=8)
        self.assert_holds([("a", 10, 10), ("b", 10, 11), ("c", 10, 11)], False, hour=10)
        self.assert_holds([("a", 10, 10), ("b", 10, 11), ("c", 11, 12)], True, hour=10)

    def test_not_seen_then(self):
        for seen in (2, 3, 6, 21, 22, -1, FAR):
            self.assert_holds([("a", 2, 2), ("b", seen, seen + 1)], False)
        self.assert_holds([("a", 2, 2), ("b", 7, 8), ("c", 9, 10)], False)
        self.assert_holds([("a", 2, 2), ("c", 12, 13)], False)
        self.assert_holds([("a", 2, 2), ("c", 7, 8), ("b", 10, 11)], False)

    def test_another_delay(self):
        for lit in (6, 7, 9, 10, -8):
            self.assert_holds([("a", 2, 2), ("b", 7, lit)], False)
        self.assert_holds([("a", 2, 2), ("b", 7, 8), ("c", 10, 10)], False)
        self.assert_holds([("a", 2, 2), ("b", 7, 8), ("c", 10, 12)], False)

    def test_all_small_lists(self):
        valley = row_of_three(fogs=doors((1, 2), (2, 3)), last=4, delay=1)
        first = ("a", 1, 1)
        triples = [(name, seen, lit) for name in "abcx" for seen in range(-1, 6) for lit in range(0, 7) if abs(lit - seen) < 3]
        for length in (1, 2):
            for rest in product(triples, repeat=length):
                way = [first] + list(rest)
                self.assertIs(way_holds(valley, "a", 1, way), slow_way_holds(valley, "a", 1, way), way)
        for way in product(triples, repeat=1):
            self.assertIs(way_holds(valley, "a", 1, list(way)), way == (first,))


class BoundsTest(unittest.TestCase):
    def assert_bounds(self, valley, name, hour, bounds, answer):
        given = list(bounds)
        self.assertIs(bounds_hold(valley, name, hour, given), answer, (fields(valley), name, hour, bounds))
        self.assertEqual(given, list(bounds))

    def test_the_earliest_hours_and_what_is_near_them(self):
        valley = row_of_three(fogs=walls(5, (2, 6)) + walls(15, (3, 9)), delay=1)
        self.assert_bounds(valley, "a", 2, [2, 8, 11], True)
        for bounds in (
                [2, 8, 12], [2, 9, 11], [3, 8, 11], [2, 9, 12], [2, 8, None], [2, None, 11], [None, 8, 11],
                [None, None, None], [2, None, None]):
            self.assert_bounds(valley, "a", 2, bounds, False)

    def test_lesser_ones(self):
        valley = row_of_three(fogs=walls(5, (2, 6)) + walls(15, (3, 9)), delay=1)
        for bounds in ([2, 8, 10], [2, 4, 11], [2, 4, 5], [0, 1, 2], [-9, -9, -9], [-FAR, -FAR, -FAR], [2, 3, 11]):
            self.assert_bounds(valley, "a", 2, bounds, True)
        # A lesser bound may ask for others that are lesser too.
        for bounds in ([1, 8, 11], [2, 2, 11], [9, 8, 2], [-FAR, 8, 11]):
            self.assert_bounds(valley, "a", 2, bounds, False)

    def test_another_length(self):
        valley = row_of_three()
        self.assert_bounds(valley, "a", 3, [3, 5, 7], True)
        for bounds in ([], [3], [3, 5], [3, 5, 7, 9], [3, 5, 7, None], [3, 5, 7, 3, 5, 7]):
            self.assert_bounds(valley, "a", 3, bounds, False)

    def test_beacons_that_are_never_lit(self):
        valley = row_of_three(fogs=walls(15, (0, 20)))
        self.assert_bounds(valley, "a", 3, [3, 5, None], True)
        self.assert_bounds(valley, "a", 3, [3, 5, 9], True)
        self.assert_bounds(valley, "a", 3, [3, 5, -9], True)
        self.assert_bounds(valley, "a", 3, [3, None, None], False)
        self.assert_bounds(valley, "a", 3, [3, 6, None], False)

    def test_no_hour_of_sight_is_left(self):
        valley = row_of_three(delay=30)
        self.assert_bounds(valley, "a", 3, [3, 33, None], True)
        self.assert_bounds(valley, "a", 3, [3, 21, None], True)
        self.assert_bounds(valley, "a", 3, [3, 20, None], False)
        self.assert_bounds(valley, "a", 3, [3, 20, 50], True)
        self.assert_bounds(valley, "a", 3, [3, 20, 51], False)

    def test_all_small_ones(self):
        choices = (None,) + tuple(range(-1, 7))
        for ab, bc, delay in (((1, 2), (2, 3), 1), ((0, 3), (1, 4), 0), ((2,), (), 2), ((0, 1, 2, 3, 4), (3,), 1)):
            valley = row_of_three(fogs=doors(ab, bc), last=4, delay=delay)
            table = slow_table(valley)
            for name, hour in (("a", 1), ("b", 3), ("c", 0)):
                least = earliest(valley, name, hour)
                for bounds in product(choices, repeat=3):
                    answer = bounds_hold(valley, name, hour, list(bounds))
                    self.assertIs(answer, slow_bounds_hold(valley, table, name, hour, bounds), (ab, bc, name, hour, bounds))
                    if answer:
                        for bound, lit in zip(bounds, least):
                            self.assertTrue(lit is None or (bound is not None and bound <= lit))

    def test_one_hour_off_in_small_valleys(self):
        for valley in small_valleys(86):
            table = slow_table(valley)
            for name in slow_names(valley):
                for hour in {valley.first, (valley.first + valley.last) // 2, valley.last}:
                    least = earliest(valley, name, hour)
                    self.assert_bounds(valley, name, hour, least, True)
                    for k, lit in enumerate(least):
                        for bound in (None,) if lit is None else (None, lit - 1, lit + 1):
                            bounds = least[:k] + [bound] + least[k + 1:]
                            answer = slow_bounds_hold(valley, table, name, hour, bounds)
                            self.assert_bounds(valley, name, hour, bounds, answer)
                            if lit is not None and bound != lit - 1:
                                self.assertFalse(answer)

    def test_hours_of_fifty_figures(self):
        valley = row_of_three(first=-FAR, last=FAR, fogs=walls(5, (-FAR, 7)), delay=3)
        self.assert_bounds(valley, "a", -FAR, [-FAR, 11, 14], True)
        self.assert_bounds(valley, "a", -FAR, [-FAR, 12, 14], False)
        self.assert_bounds(valley, "a", -FAR, [-FAR, 11, 15], False)


class LatestTest(unittest.TestCase):
    def assert_latest(self, valley, goal, by, *hours):
        answer = latest(valley, goal, by)
        self.assertEqual(answer, list(hours), (fields(valley), goal, by))
        self.assertIs(type(answer), list)

    def test_written_out(self):
        valley = row_of_three(fogs=walls(5, (2, 6)) + walls(15, (3, 9)), delay=1)
        self.assert_latest(valley, "c", 11, 9, 10, 11)
        self.assert_latest(valley, "c", 10, 1, 2, 10)
        self.assert_latest(valley, "c", 3, 1, 2, 3)
        self.assert_latest(valley, "c", 2, 0, 1, 2)
        self.assert_latest(valley, "c", 1, None, 0, 1)
        self.assert_latest(valley, "c", 0, None, None, 0)
        self.assert_latest(valley, "c", -1, None, None, None)

    def test_behind_the_last_hour(self):
        self.assert_latest(row_of_three(), "c", 20, 16, 18, 20)
        self.assert_latest(row_of_three(), "c", 21, 17, 19, 20)
        self.assert_latest(row_of_three(), "c", 22, 18, 20, 20)
        for by in (23, 24, 99, FAR):
            self.assert_latest(row_of_three(), "c", by, 18, 20, 20)

    def test_long_before(self):
        for by in (-1, -2, -FAR):
            for goal in "abc":
                self.assert_latest(row_of_three(), goal, by, None, None, None)
                self.assert_latest(row_of_three(delay=0), goal, by, None, None, None)

    def test_never_heard(self):
        self.assert_latest(row_of_three(fogs=walls(15, (0, 20))), "c", 20, None, None, 20)
        self.assert_latest(row_of_three(fogs=walls(15, (0, 20))), "a", 20, 20, 18, None)

    def test_with_no_delay(self):
        self.assert_latest(row_of_three(delay=0), "c", 7, 7, 7, 7)
        self.assert_latest(row_of_three(delay=0, fogs=walls(5, (3, 9))), "c", 7, 2, 7, 7)

    def test_hours_of_fifty_figures(self):
        valley = row_of_three(first=-FAR, last=FAR, fogs=walls(5, (-7, FAR - 1)), delay=3)
        self.assert_latest(valley, "c", FAR, -8, FAR - 3, FAR)
        self.assert_latest(valley, "c", 9 * FAR, -8, FAR, FAR)
        self.assert_latest(valley, "c", -FAR + 6, -FAR, -FAR + 3, -FAR + 6)
        self.assert_latest(valley, "c", -FAR + 5, None, -FAR + 2, -FAR + 5)

    def test_by_the_earliest_of_each_hour(self):
        for valley in small_valleys(87):
            table = slow_table(valley)
            names = slow_names(valley)
            hours = range(valley.first, valley.last + 1)
            lit = {(name, hour): slow_earliest(valley, table, name, hour) for name in names for hour in hours}
            for k, goal in enumerate(names):
                for by in range(valley.first - 3, valley.last + 2 * valley.delay + 3):
                    answer = []
                    for name in names:
                        good = [hour for hour in hours if lit[name, hour][k] is not None and lit[name, hour][k] <= by]
                        answer.append(max(good, default=None))
                    self.assertEqual(latest(valley, goal, by), answer, (fields(valley), goal, by))

    def test_its_own(self):
        valley = row_of_three()
        told = latest(valley, "c", 20)
        told.clear()
        self.assert_latest(valley, "c", 20, 16, 18, 20)


class RefusalTest(unittest.TestCase):
    def test_no_beacon_ahead_of_the_hour_and_of_all_else(self):
        for hour in (-1, 0, 20, 21, FAR):
            for valley in (row_of_three(), row_of_three(haze=0)):
                self.assertIs(refused(earliest, valley, "x", hour), NoBeacon)
                self.assertIs(refused(way_to, valley, "x", hour, "a"), NoBeacon)
                self.assertIs(refused(way_to, valley, "a", hour, "x"), NoBeacon)
                self.assertIs(refused(way_to, valley, "x", hour, "x"), NoBeacon)
                for way in ([], [("x", hour, hour)], [("a", hour, hour)]):
                    self.assertIs(refused(way_holds, valley, "x", hour, way), NoBeacon)
                for bounds in ([], [1, 2, 3], [None] * 3):
                    self.assertIs(refused(bounds_hold, valley, "x", hour, bounds), NoBeacon)
                self.assertIs(refused(latest, valley, "x", hour), NoBeacon)

    def test_hours_outside(self):
        for hour in (-1, 21, FAR, -FAR):
            for valley in (row_of_three(), row_of_three(haze=0)):
                self.assertIs(refused(earliest, valley, "a", hour), BadHour)
                self.assertIs(refused(way_to, valley, "a", hour, "a"), BadHour)
                self.assertIs(refused(way_to, valley, "a", hour, "c"), BadHour)
                for way in ([], [("a", hour, hour)], [("b", hour, hour)], [("x", 1, 2)]):
                    self.assertIs(refused(way_holds, valley, "a", hour, way), BadHour)
                for bounds in ([], [1, 2], [-9, -9, -9], [None] * 3):
                    self.assertIs(refused(bounds_hold, valley, "a", hour, bounds), BadHour)
                self.assertIsNone(refused(latest, valley, "a", hour))

    def test_the_first_and_the_last_hour_are_hours(self):
        for hour in (0, 20):
            self.assertIsNone(refused(earliest, row_of_three(), "a", hour))
            self.assertIsNone(refused(way_to, row_of_three(), "a", hour, "c"))
            self.assertIsNone(refused(way_holds, row_of_three(), "a", hour, []))
            self.assertIsNone(refused(bounds_hold, row_of_three(), "a", hour, []))


class AskedAgainTest(unittest.TestCase):
    """[0.2]: the same asked again is told alike, and nothing handed in is changed."""

    def test_asked_twice(self):
        valley = row_of_three(fogs=walls(5, (2, 6)) + walls(15, (3, 9)), delay=1)
        before = fields(valley)
        for turn in range(2):
            self.assertEqual(earliest(valley, "a", 2), [2, 8, 11])
            self.assertEqual(way_to(valley, "a", 2, "b"), [("a", 2, 2), ("b", 7, 8)])
            self.assertEqual(latest(valley, "c", 11), [9, 10, 11])
        self.assertEqual(fields(valley), before)


if __name__ == "__main__":
    unittest.main()
