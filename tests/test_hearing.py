"""[9.1] and beaconvale.hearing."""

import unittest
from itertools import product

from beaconvale.errors import BadHour, NoBeacon
from beaconvale.hearing import first_unheard, heard_by, hearing, hearings
from beaconvale.reaches import is_reach
from beaconvale.tidings import earliest
from vales import (
    FAR, fields, refused, row_of_three, slow_earliest, slow_names, slow_reach, slow_table, some_valleys, vale, walls, webs)


def gated(**given):
    # From a to b at hours 0, 1 and from 7 on, from b to c at hours 0 to 2 and from 10 on.
    return row_of_three(**dict(dict(fogs=walls(5, (2, 6)) + walls(15, (3, 9)), delay=1), **given))


def slow_hearings(valley):
    """At (name, other): where each hour of the valley is led, None where it is not."""
    table = slow_table(valley)
    names = slow_names(valley)
    found = {pair: [] for pair in product(names, repeat=2)}
    for name in names:
        for hour in range(valley.first, valley.last + 1):
            for other, lit in zip(names, slow_earliest(valley, table, name, hour)):
                found[name, other].append(lit)
    return found


def small_valleys(seed):
    return some_valleys(seed, 30) + webs(seed + 1, 15, 6)


class HearingTest(unittest.TestCase):
    def assert_hearing(self, valley, name, other, *pieces):
        answer = hearing(valley, name, other)
        self.assertEqual(answer, pieces, (fields(valley), name, other))
        self.assertIs(type(answer), tuple)
        self.assertIs(is_reach(answer), True)

    def test_written_out(self):
        self.assert_hearing(gated(), "a", "b", (0, 1, 1, 1), (2, 7, 8, 0), (8, 20, 9, 1))
        self.assert_hearing(gated(), "a", "c", (0, 1, 2, 1), (2, 9, 11, 0), (10, 19, 12, 1))
        self.assert_hearing(gated(), "c", "a", (0, 0, 2, 0), (1, 2, 8, 0), (3, 10, 12, 0), (11, 19, 13, 1))
        self.assert_hearing(gated(), "b", "c", (0, 2, 1, 1), (3, 10, 11, 0), (11, 20, 12, 1))

    def test_from_itself(self):
        for name in "abc":
            self.assert_hearing(gated(), name, name, (0, 20, 0, 1))
            self.assert_hearing(gated(first=4, last=4), name, name, (4, 4, 4, 0))
            self.assert_hearing(gated(haze=0), name, name, (0, 20, 0, 1))

    def test_never_heard(self):
        for name, other in (("a", "b"), ("a", "c"), ("c", "b")):
            self.assert_hearing(row_of_three(haze=99), name, other)
        self.assert_hearing(row_of_three(delay=21), "a", "c")
        self.assert_hearing(row_of_three(delay=20), "a", "c", (0, 0, 40, 0))

    def test_by_a_longer_row_at_some_hours_alone(self):
        # From a to c straight away from hour 9 on alone.
        valley = vale([("a", 0, 5), ("c", 20, 5), ("b", 10, 9)], [(10, 10, 5, 5, 0, 8, 0, 0)], delay=3)
        self.assert_hearing(valley, "a", "c", (0, 6, 6, 1), (7, 9, 12, 0), (10, 20, 13, 1))
        self.assert_hearing(valley, "a", "b", (0, 20, 3, 1))

    def test_hours_of_fifty_figures(self):
        valley = gated(first=-FAR, last=FAR)
        self.assert_hearing(valley, "a", "c", (-FAR, 1, 2 - FAR, 1), (2, 9, 11, 0), (10, FAR - 1, 12, 1))
        self.assert_hearing(
            gated(first=-FAR, last=FAR, delay=FAR), "a", "c",
            (-FAR, 2 - FAR, FAR, 1), (3 - FAR, 10 - FAR, FAR + 10, 0), (11 - FAR, 0, FAR + 11, 1))

    def test_hour_by_hour(self):
        for valley in small_valleys(91):
            for (name, other), row in slow_hearings(valley).items():
                led = [lit for lit in row if lit is not None]
                self.assertEqual(row[:len(led)], led)
                self.assert_hearing(valley, name, other, *slow_reach(valley.first, led))

    def test_no_beacon(self):
        for name, other in (("x", "a"), ("a", "x"), ("x", "x"), ("", "a")):
            self.assertIs(refused(hearing, gated(), name, other), NoBeacon)


class HearingsTest(unittest.TestCase):
    def test_each_at_its_place(self):
        for valley in (gated(), row_of_three(), vale([("z", 0, 5)]), vale()):
            names = slow_names(valley)
            self.assertEqual(hearings(valley), [[hearing(valley, name, other) for other in names] for name in names])

    def test_which_is_from_which(self):
        told = hearings(gated())
        self.assertEqual(told[0][2], ((0, 1, 2, 1), (2, 9, 11, 0), (10, 19, 12, 1)))
        self.assertEqual(told[2][0], ((0, 0, 2, 0), (1, 2, 8, 0), (3, 10, 12, 0), (11, 19, 13, 1)))
        self.assertEqual(told[1][1], ((0, 20, 0, 1),))

    def test_hour_by_hour(self):
        for valley in small_valleys(93):
            names = slow_names(valley)
            rows = slow_hearings(valley)
            told = hearings(valley)
            self.assertEqual([len(row) for row in told], [len(names)] * len(names))
            for (i, name), (j, other) in product(enumerate(names), repeat=2):
                led = [lit for lit in rows[name, other] if lit is not None]
                self.assertEqual(told[i][j], slow_reach(valley.first, led), (fields(valley), name, other))

    def test_nine_beacons(self):
        for valley in webs(95, 2, 9):
            rows = slow_hearings(valley)
            names = slow_names(valley)
            told = hearings(valley)
            for (i, name), (j, other) in product(enumerate(names), repeat=2):
                led = [lit for lit in rows[name, other] if lit is not None]
                self.assertEqual(told[i][j], slow_reach(valley.first, led), (fields(valley), name, other))

    def test_lists_are_the_askers_own(self):
        valley = gated()
        told = hearings(valley)
        before = [list(row) for row in told]
        self.assertIs(type(told), list)
        self.assertEqual(len({id(row) for row in told}), 3)
        for row in told:
            self.assertIs(type(row), list)
        told[0].clear()
        told[1][1] = None
        self.assertEqual(told[2], before[2])
        told.pop()
        self.assertEqual(hearings(valley), before)


class HeardByTest(unittest.TestCase):
    def assert_heard(self, valley, name, hour, by, *names):
        answer = heard_by(valley, name, hour, by)
        self.assertEqual(answer, list(names), (fields(valley), name, hour, by))
        self.assertIs(type(answer), list)

    def test_before_at_and_behind(self):
        self.assert_heard(gated(), "a", 2, 1)
        self.assert_heard(gated(), "a", 2, 2, "a")
        self.assert_heard(gated(), "a", 2, 7, "a")
        self.assert_heard(gated(), "a", 2, 8, "a", "b")
        self.assert_heard(gated(), "a", 2, 10, "a", "b")
        self.assert_heard(gated(), "a", 2, 11, "a", "b", "c")
        self.assert_heard(gated(), "a", 2, FAR, "a", "b", "c")
        self.assert_heard(gated(), "a", 2, -FAR)

    def test_order(self):
        self.assert_heard(gated(), "c", 3, 11, "b", "c")
        self.assert_heard(gated(), "c", 3, 12, "a", "b", "c")
        self.assert_heard(vale([("z", 10, 5), ("m", 0, 5), ("a", 20, 5)], haze=100, delay=1), "a", 3, 5, "z", "m", "a")
        self.assert_heard(vale([("z", 10, 5), ("m", 0, 5), ("a", 20, 5)], haze=100, delay=1), "m", 3, 4, "z", "m")

    def test_never(self):
        self.assert_heard(row_of_three(haze=99), "b", 3, FAR, "b")
        self.assert_heard(row_of_three(delay=9), "a", 20, 28, "a")
        self.assert_heard(row_of_three(delay=9), "a", 20, 29, "a", "b")
        self.assert_heard(row_of_three(delay=9), "a", 20, FAR, "a", "b")

    def test_by_the_earliest(self):
        for valley in small_valleys(96):
            names = slow_names(valley)
            for name in names:
                for hour in {valley.first, valley.last, (valley.first + valley.last) // 2}:
                    lit_hours = earliest(valley, name, hour)
                    for by in range(valley.first - 2, valley.last + 9, 2):
                        self.assert_heard(
                            valley, name, hour, by,
                            *[each for each, lit in zip(names, lit_hours) if lit is not None and lit <= by])

    def test_refusals(self):
        for hour in (-1, 21, FAR, -FAR):
            self.assertIs(refused(heard_by, gated(), "a", hour, 5), BadHour)
            self.assertIs(refused(heard_by, gated(), "x", hour, 5), NoBeacon)
            self.assertIsNone(refused(heard_by, gated(), "a", 5, hour))
        self.assertIs(refused(heard_by, gated(), "x", 5, 5), NoBeacon)
        for hour in (0, 20):
            self.assertIsNone(refused(heard_by, gated(), "a", hour, 5))

    def test_its_own(self):
        valley = gated()
        heard_by(valley, "a", 2, 8).clear()
        self.assert_heard(valley, "a", 2, 8, "a", "b")


class FirstUnheardTest(unittest.TestCase):
    def test_at_the_first_hour(self):
        self.assertEqual(first_unheard(row_of_three(haze=99), "a", "b"), 0)
        self.assertEqual(first_unheard(row_of_three(haze=99, first=-7), "a", "c"), -7)
        self.assertEqual(first_unheard(row_of_three(delay=21), "a", "c"), 0)

    def test_later(self):
        self.assertEqual(first_unheard(row_of_three(), "a", "c"), 19)
        self.assertEqual(first_unheard(row_of_three(delay=1), "a", "c"), 20)
        self.assertEqual(first_unheard(row_of_three(delay=20), "a", "c"), 1)
        self.assertEqual(first_unheard(row_of_three(fogs=walls(5, (7, 20))), "a", "b"), 7)
        self.assertEqual(first_unheard(row_of_three(fogs=walls(5, (7, 20))), "b", "a"), 7)
        self.assertEqual(first_unheard(row_of_three(fogs=walls(5, (20, 20))), "b", "a"), 20)

    def test_none(self):
        self.assertIsNone(first_unheard(row_of_three(), "a", "b"))
        self.assertIsNone(first_unheard(row_of_three(delay=0), "a", "c"))
        self.assertIsNone(first_unheard(row_of_three(delay=99), "a", "b"))
        self.assertIsNone(first_unheard(row_of_three(fogs=walls(5, (0, 19))), "a", "b"))
        for name in "abc":
            self.assertIsNone(first_unheard(row_of_three(haze=0), name, name))

    def test_nought_is_an_hour(self):
        self.assertEqual(first_unheard(row_of_three(first=-5, fogs=walls(5, (0, 20))), "a", "b"), 0)

    def test_hours_of_fifty_figures(self):
        self.assertEqual(first_unheard(gated(first=-FAR, last=FAR), "a", "c"), FAR)
        self.assertEqual(first_unheard(gated(first=-FAR, last=FAR, delay=FAR), "a", "c"), 1)
        self.assertEqual(first_unheard(row_of_three(first=-FAR, last=FAR, fogs=walls(5, (7, FAR))), "a", "b"), 7)

    def test_hour_by_hour(self):
        for valley in small_valleys(97):
            for (name, other), row in slow_hearings(valley).items():
                unheard = [hour for hour, lit in enumerate(row, start=valley.first) if lit is None]
                self.assertEqual(first_unheard(valley, name, other), min(unheard, default=None))

    def test_no_beacon(self):
        for name, other in (("x", "a"), ("a", "x"), ("x", "x")):
            self.assertIs(refused(first_unheard, gated(), name, other), NoBeacon)


class AskedAgainTest(unittest.TestCase):
    """[0.2]: the same asked again is told alike, and nothing handed in is changed."""

    def test_asked_twice(self):
        valley = gated()
        before = fields(valley)
        self.assertEqual(hearings(valley), hearings(valley))
        self.assertEqual(hearing(valley, "a", "c"), hearing(valley, "a", "c"))
        self.assertEqual(fields(valley), before)


if __name__ == "__main__":
    unittest.main()
