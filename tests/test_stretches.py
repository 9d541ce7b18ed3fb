"""[3.2] and beaconvale.stretches."""

import unittest
from fractions import Fraction
from itertools import product

from beaconvale.stretches import holds_place, joined, length, shared

FAR = 10 ** 199 + 7     # 200 figures
GRID = (Fraction(-3, 2), Fraction(-1, 3), Fraction(0), Fraction(1, 7), Fraction(2))


def pair(value):
    return (value.numerator, value.denominator)


def told(*ends):
    """Stretches of ends such as (0, 2) or ("1/2", 3)."""
    return tuple((pair(Fraction(low)), pair(Fraction(high))) for low, high in ends)


def plain(stretches):
    return [(Fraction(*low), Fraction(*high)) for low, high in stretches]


def held(stretches, place):
    return any(low <= place <= high for low, high in plain(stretches))


def all_stretches(points):
    """Every tuple of stretches whose ends are among the points."""
    found = [()]
    for i in range(len(points)):
        for j in range(i, len(points)):
            first = (pair(points[i]), pair(points[j]))
            found.extend((first,) + rest for rest in all_stretches(points[j + 1:]))
    return found


def samples(points):
    """The points, a place between each two, and one beyond either end."""
    between = [(low + high) / 2 for low, high in zip(points, points[1:])]
    return list(points) + between + [points[0] - 1, points[-1] + 1]


class StretchesCase(unittest.TestCase):
    def assert_stretches(self, value):
        self.assertIs(type(value), tuple)
        for stretch in value:
            self.assertIs(type(stretch), tuple)
            self.assertEqual(len(stretch), 2)
            for place in stretch:
                self.assertIs(type(place), tuple)
                self.assertEqual([type(number) for number in place], [int, int])
                self.assertEqual(pair(Fraction(*place)), place)
        for low, high in plain(value):
            self.assertLessEqual(low, high)
        for one, other in zip(plain(value), plain(value)[1:]):
            self.assertLess(one[1], other[0])

    def assert_both_ways(self, function, one, other, answer):
        for first, second in ((one, other), (other, one)):
            self.assertEqual(function(first, second), answer)
            self.assert_stretches(function(first, second))


class JoinedTest(StretchesCase):
    def assert_joined(self, one, other, answer):
        self.assert_both_ways(joined, told(*one), told(*other), told(*answer))

    def test_apart(self):
        self.assert_joined([(0, 1)], [(2, 3)], [(0, 1), (2, 3)])
        self.assert_joined([(0, 1), (6, 7)], [(2, 3), (4, 5)], [(0, 1), (2, 3), (4, 5), (6, 7)])
        self.assert_joined([(0, 1), (4, 5)], [(2, 3), (6, 7)], [(0, 1), (2, 3), (4, 5), (6, 7)])

    def test_apart_by_very_little(self):
        near = Fraction(FAR + 1, FAR)
        self.assert_joined([(0, 1)], [(near, 3)], [(0, 1), (near, 3)])

    def test_touching_in_one_place(self):
        self.assert_joined([(0, 1)], [(1, 2)], [(0, 2)])
        self.assert_joined([(0, 1), (3, 4)], [(1, 3)], [(0, 4)])
        self.assert_joined([(0, "1/3")], [("1/3", "1/2")], [(0, "1/2")])

    def test_overlapping(self):
        self.assert_joined([(0, 2)], [(1, 3)], [(0, 3)])
        self.assert_joined([(0, 2), (4, 6)], [(1, 5)], [(0, 6)])
        self.assert_joined([(0, 2), (4, 6), (8, 9)], [(1, 5), (7, 8)], [(0, 6), (7, 9)])

    def test_within(self):
        self.assert_joined([(0, 9)], [(1, 2), (4, 5)], [(0, 9)])
        self.assert_joined([(0, 9)], [(0, 2), (4, 9)], [(0, 9)])
        self.assert_joined([(-2, -1), (1, 2), (8, 9)], [(0, 3)], [(-2, -1), (0, 3), (8, 9)])

    def test_single_places(self):
        self.assert_joined([(1, 1)], [(1, 1)], [(1, 1)])
        self.assert_joined([(1, 1)], [(2, 2)], [(1, 1), (2, 2)])
        self.assert_joined([(0, 1)], [(1, 1)], [(0, 1)])
        self.assert_joined([(0, 1)], [(0, 0)], [(0, 1)])
        self.assert_joined([(0, 2)], [(1, 1)], [(0, 2)])
        self.assert_joined([(0, 1), (3, 4)], [(2, 2)], [(0, 1), (2, 2), (3, 4)])

    def test_the_same_and_nothing(self):
        self.assert_joined([(0, 1), (2, 2)], [(0, 1), (2, 2)], [(0, 1), (2, 2)])
        self.assert_joined([], [], [])
        self.assert_joined([(0, 1), (2, 2)], [], [(0, 1), (2, 2)])

    def test_fractions_by_their_worth_and_not_by_their_numbers(self):
        self.assert_joined([("1/3", "3/4")], [("2/3", "5/7")], [("1/3", "3/4")])
        self.assert_joined([("-1/2", "-1/3")], [("-2/5", 0)], [("-1/2", 0)])
        self.assert_joined([("9/10", "9/10")], [("1/2", "2/3")], [("1/2", "2/3"), ("9/10", "9/10")])

    def test_long_numbers(self):
        low, high = Fraction(-FAR, FAR + 1), Fraction(FAR, FAR - 1)
        self.assert_joined([(low, 0)], [(0, high)], [(low, high)])
        self.assert_joined([(-FAR, low)], [(high, FAR)], [(-FAR, low), (high, FAR)])

    def test_all_small_ones(self):
        for one, other in product(all_stretches(GRID), repeat=2):
            answer = joined(one, other)
            self.assert_stretches(answer)
            for place in samples(GRID):
                self.assertEqual(held(answer, place), held(one, place) or held(other, place))


class SharedTest(StretchesCase):
    def assert_shared(self, one, other, answer):
        self.assert_both_ways(shared, told(*one), told(*other), told(*answer))

    def test_apart(self):
        self.assert_shared([(0, 1)], [(2, 3)], [])
        self.assert_shared([(0, 1), (4, 5)], [(2, 3), (6, 7)], [])
        self.assert_shared([(0, 1)], [(Fraction(FAR + 1, FAR), 3)], [])

    def test_touching_in_one_place(self):
        self.assert_shared([(0, 1)], [(1, 2)], [(1, 1)])
        self.assert_shared([(0, 1), (3, 4)], [(1, 3)], [(1, 1), (3, 3)])
        self.assert_shared([(0, "1/3")], [("1/3", "1/2")], [("1/3", "1/3")])

    def test_overlapping(self):
        self.assert_shared([(0, 2)], [(1, 3)], [(1, 2)])
        self.assert_shared([(0, 2), (4, 6)], [(1, 5)], [(1, 2), (4, 5)])

    def test_within(self):
        self.assert_shared([(0, 9)], [(1, 2), (4, 5)], [(1, 2), (4, 5)])
        self.assert_shared([(0, 9)], [(0, 2), (4, 9)], [(0, 2), (4, 9)])

    def test_single_places(self):
        self.assert_shared([(1, 1)], [(1, 1)], [(1, 1)])
        self.assert_shared([(1, 1)], [(2, 2)], [])
        self.assert_shared([(0, 1)], [(0, 0), (1, 1), (2, 2)], [(0, 0), (1, 1)])
        self.assert_shared([(0, 2)], [(1, 1)], [(1, 1)])

    def test_the_same_and_nothing(self):
        self.assert_shared([(0, 1), (2, 2)], [(0, 1), (2, 2)], [(0, 1), (2, 2)])
        self.assert_shared([], [], [])
        self.assert_shared([(0, 1)], [], [])

    def test_fractions_by_their_worth_and_not_by_their_numbers(self):
        self.assert_shared([("1/3", "3/4")], [("2/3", "5/7")], [("2/3", "5/7")])
        self.assert_shared([("-1/2", "-1/3")], [("-2/5", 0)], [("-2/5", "-1/3")])

    def test_long_numbers(self):
        low, high = Fraction(FAR - 1, FAR), Fraction(FAR, FAR - 1)
        self.assert_shared([(0, high)], [(low, FAR)], [(low, high)])
        self.assert_shared([(0, low)], [(high, FAR)], [])

    def test_all_small_ones(self):
        for one, other in product(all_stretches(GRID), repeat=2):
            answer = shared(one, other)
            self.assert_stretches(answer)
            for place in samples(GRID):
                self.assertEqual(held(answer, place), held(one, place) and held(other, place))


class HoldsPlaceTest(unittest.TestCase):
    def test_at_the_ends_within_between_ahead_and_behind(self):
        stretches = told((0, 1), ("3/2", "3/2"), (2, "7/3"))
        for place in (0, "1/2", 1, "3/2", 2, "13/6", "7/3", Fraction(1, FAR), Fraction(FAR - 1, FAR)):
            self.assertIs(holds_place(stretches, pair(Fraction(place))), True, place)
        for place in (-1, -FAR, Fraction(-1, FAR), Fraction(FAR + 1, FAR), "5/4", "7/4", "12/5", 3, FAR):
            self.assertIs(holds_place(stretches, pair(Fraction(place))), False, place)

    def test_of_nothing(self):
        for place in ((0, 1), (-5, 2), (FAR, 1)):
            self.assertIs(holds_place((), place), False)

    def test_all_small_ones(self):
        for stretches in all_stretches(GRID):
            for place in samples(GRID):
                self.assertIs(holds_place(stretches, pair(place)), held(stretches, place))


class LengthTest(unittest.TestCase):
    def test_of_nothing_and_of_single_places(self):
        self.assertEqual(length(()), (0, 1))
        self.assertEqual(length(told(("2/3", "2/3"))), (0, 1))
        self.assertEqual(length(told((-4, -4), ("2/3", "2/3"), (FAR, FAR))), (0, 1))

    def test_of_some(self):
        rows = (
            (told((0, 5)), (5, 1)),
            (told((-5, -2)), (3, 1)),
            (told(("-1/2", "1/3")), (5, 6)),
            (told((0, "1/2"), (1, "3/2")), (1, 1)),
            (told((0, "1/6"), (1, 1), (2, "13/6"), (3, "19/6")), (1, 2)),
        )
        for stretches, answer in rows:
            self.assertEqual(length(stretches), answer)
            self.assertIs(type(length(stretches)), tuple)

    def test_great_and_small(self):
        self.assertEqual(length(told((-FAR, FAR))), (2 * FAR, 1))
        self.assertEqual(length(told((0, Fraction(1, FAR)))), (1, FAR))
        self.assertEqual(length(told((0, Fraction(1, FAR)), (1, FAR))), pair(Fraction(1, FAR) + FAR - 1))

    def test_many_long_ones(self):
        places = [k + Fraction(k + 1, FAR + k) for k in range(90)]
        stretches = told(*zip(places[::2], places[1::2]))
        self.assertEqual(length(stretches), pair(sum(places[1::2]) - sum(places[::2])))

    def test_all_small_ones(self):
        for stretches in all_stretches(GRID):
            answer = sum((high - low for low, high in plain(stretches)), Fraction(0))
            self.assertEqual(length(stretches), pair(answer))


class AskedAgainTest(unittest.TestCase):
    """[0.2]: the same asked again is told alike, and nothing handed in is changed."""

    def test_asked_twice(self):
        one, other = told((0, 1), (3, 4)), told((1, 2), (4, 4))
        for turn in range(2):
            self.assertEqual(joined(one, other), told((0, 2), (3, 4)))
            self.assertEqual(shared(one, other), told((1, 1), (4, 4)))
            self.assertEqual(length(one), (2, 1))
            self.assertIs(holds_place(other, (3, 2)), True)
        self.assertEqual((one, other), (told((0, 1), (3, 4)), told((1, 2), (4, 4))))


if __name__ == "__main__":
    unittest.main()
