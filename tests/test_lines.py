"""[1.1] and the lines of beaconvale.lines, beside Python's own fractions."""

import unittest
from fractions import Fraction
from itertools import product

from beaconvale.lines import crossing, height_on, side_of

FAR = 10 ** 55 + 3      # 56 figures
SPOTS = [(x, z) for x in (-2, 0, 3) for z in (-3, 0, 2)]
FAR_SPOTS = [(-FAR, 5), (FAR, -FAR), (1, FAR - 9), (FAR - 1, FAR)]


def lines(spots):
    return [(one, other) for one, other in product(spots, spots) if one[0] != other[0]]


def pair(value):
    return (value.numerator, value.denominator)


def height(one, other, x):
    steepness = Fraction(other[1] - one[1], other[0] - one[0])
    return one[1] + steepness * (x - one[0])


class SideOfTest(unittest.TestCase):
    def test_above_on_and_below_in_either_order(self):
        rows = (
            ((2, 2), 1), ((2, 1), 0), ((2, 0), -1),          # between the two
            ((8, 5), 1), ((8, 4), 0), ((8, 3), -1),          # beyond the one
            ((-2, 0), 1), ((-2, -1), 0), ((-2, -2), -1),     # beyond the other
            ((0, 1), 1), ((0, 0), 0), ((4, 1), -1),          # at their places
        )
        for spot, side in rows:
            self.assertEqual(side_of((0, 0), (4, 2), spot), side)
            self.assertEqual(side_of((4, 2), (0, 0), spot), side)

    def test_as_near_the_line_as_can_be(self):
        for one, other in (((0, 0), (1, 0)), ((1, 0), (0, 0)), ((0, 0), (FAR, 1)), ((FAR, 1), (0, 0))):
            self.assertEqual(side_of(one, other, (1, 1)), 1)
            self.assertEqual(side_of(one, other, (-1, -1)), -1)
        self.assertEqual(side_of((0, 0), (FAR, 1), (FAR - 1, 1)), 1)
        self.assertEqual(side_of((0, 0), (FAR, 1), (1, 0)), -1)

    def test_all_small_ones(self):
        for one, other in lines(SPOTS + FAR_SPOTS):
            for spot in SPOTS + FAR_SPOTS + [(7, 7), (-9, 1)]:
                over = spot[1] - height(one, other, spot[0])
                told = side_of(one, other, spot)
                self.assertEqual(told, (over > 0) - (over < 0))
                self.assertIs(type(told), int)


class HeightOnTest(unittest.TestCase):
    def test_written_out_in_either_order(self):
        rows = (((1, 2), (1, 3)), ((0, 1), (0, 1)), ((3, 1), (2, 1)), ((-3, 2), (-1, 1)), ((9, 1), (6, 1)))
        for place, told in rows:
            self.assertEqual(height_on((0, 0), (3, 2), place), told)
            self.assertEqual(height_on((3, 2), (0, 0), place), told)

    def test_level_line(self):
        self.assertEqual(height_on((1, -4), (2, -4), (7, 3)), (-4, 1))
        self.assertEqual(height_on((2, 0), (1, 0), (-7, 3)), (0, 1))

    def test_all_small_ones(self):
        places = [Fraction(t, b) for t in range(-9, 10, 2) for b in (1, 2, 5)] + [Fraction(FAR, 7), Fraction(-3, FAR)]
        for one, other in lines(SPOTS + FAR_SPOTS):
            for place in places:
                told = height_on(one, other, pair(place))
                self.assertEqual(told, pair(height(one, other, place)))
                self.assertIs(type(told), tuple)


class CrossingTest(unittest.TestCase):
    def assert_meet_at(self, one, other, three, four, told):
        for first in ((one, other), (other, one)):
            for second in ((three, four), (four, three)):
                self.assertEqual(crossing(*first, *second), told)
                self.assertEqual(crossing(*second, *first), told)

    def test_lines_that_meet(self):
        self.assert_meet_at((0, 0), (2, 2), (0, 2), (2, 0), (1, 1))
        self.assert_meet_at((0, 0), (3, 1), (0, 1), (1, 0), (3, 4))
        self.assert_meet_at((0, 0), (1, 1), (0, 7), (1, 6), (7, 2))
        self.assert_meet_at((0, 0), (1, 1), (0, -7), (1, -8), (-7, 2))
        self.assert_meet_at((-5, 4), (5, -4), (-1, 2), (1, -2), (0, 1))
        self.assert_meet_at((0, 0), (4, 3), (0, 0), (4, -3), (0, 1))

    def test_lines_that_never_meet(self):
        self.assert_meet_at((0, 0), (2, 2), (0, 1), (3, 4), None)
        self.assert_meet_at((0, 5), (2, 5), (1, 6), (9, 6), None)

    def test_the_same_line(self):
        self.assert_meet_at((0, 0), (2, 2), (0, 0), (2, 2), None)
        self.assert_meet_at((0, 0), (2, 2), (5, 5), (-3, -3), None)

    def test_all_small_ones(self):
        for one, other in lines(SPOTS + FAR_SPOTS[:2]):
            for three, four in lines(SPOTS[::2] + FAR_SPOTS[1:]):
                told = crossing(one, other, three, four)
                gap = height(one, other, 0) - height(three, four, 0)
                turn = height(one, other, 1) - height(three, four, 1) - gap
                self.assertEqual(told, None if turn == 0 else pair(-gap / turn))


if __name__ == "__main__":
    unittest.main()
