"""[0.4] and the fractions of beaconvale.lines, beside Python's own fractions."""

import unittest
from fractions import Fraction
from math import ceil, floor, gcd

from beaconvale.lines import down, fraction, less, minus, plus, times, up

BIG = 3 ** 100          # 48 figures
OTHER_BIG = 7 ** 60     # 51 figures
HUGE = 10 ** 199 + 7    # 200 figures
TOPS = list(range(-13, 14)) + [BIG, -BIG, OTHER_BIG, 6 * BIG, -OTHER_BIG * 6]
BOTTOMS = [b for b in range(-12, 13) if b != 0] + [BIG, -BIG, OTHER_BIG, -OTHER_BIG * 4]


def pair(value):
    return (value.numerator, value.denominator)


def some_fractions():
    values = {Fraction(t, b) for t in range(-7, 8) for b in (1, 2, 3, 4, 6)}
    big = {Fraction(BIG, OTHER_BIG), Fraction(-OTHER_BIG, BIG), Fraction(BIG), Fraction(-1, OTHER_BIG)}
    return sorted(values | big)


class FractionCase(unittest.TestCase):
    def assert_is_fraction(self, told):
        self.assertIs(type(told), tuple)
        self.assertEqual([type(part) for part in told], [int, int])
        self.assertGreaterEqual(told[1], 1)
        self.assertEqual(gcd(told[0], told[1]), 1)

    def assert_tells(self, told, value):
        self.assert_is_fraction(told)
        self.assertEqual(told, pair(value))


class MakingTest(FractionCase):
    def test_tops_and_bottoms_of_either_sign(self):
        for top in TOPS:
            for bottom in BOTTOMS:
                self.assert_tells(fraction(top, bottom), Fraction(top, bottom))

    def test_written_out(self):
        self.assertEqual(fraction(6, 4), (3, 2))
        self.assertEqual(fraction(6, -4), (-3, 2))
        self.assertEqual(fraction(-6, -4), (3, 2))
        self.assertEqual(fraction(-6, 4), (-3, 2))
        self.assertEqual(fraction(-8, -4), (2, 1))

    def test_nought_is_told_in_one_way(self):
        for bottom in BOTTOMS:
            self.assertEqual(fraction(0, bottom), (0, 1))

    def test_some_fifty_and_two_hundred_figures(self):
        self.assertEqual(fraction(BIG * 10, -BIG * 15), (-2, 3))
        self.assertEqual(fraction(BIG * OTHER_BIG, OTHER_BIG * OTHER_BIG), (BIG, OTHER_BIG))
        self.assert_tells(fraction(HUGE, -(HUGE - 11)), Fraction(HUGE, -(HUGE - 11)))


class ReckoningTest(FractionCase):
    def test_less_plus_minus_times_of_all_pairs(self):
        for one in some_fractions():
            for other in some_fractions():
                self.assertIs(less(pair(one), pair(other)), one < other)
                self.assert_tells(plus(pair(one), pair(other)), one + other)
                self.assert_tells(minus(pair(one), pair(other)), one - other)
                self.assert_tells(times(pair(one), pair(other)), one * other)

    def test_like_ones(self):
        for one in some_fractions():
            self.assertIs(less(pair(one), pair(one)), False)
            self.assertEqual(minus(pair(one), pair(one)), (0, 1))

    def test_written_out(self):
        self.assertIs(less((-1, 2), (-1, 3)), True)
        self.assertIs(less((-1, 3), (-1, 2)), False)
        self.assertEqual(plus((1, 6), (1, 3)), (1, 2))
        self.assertEqual(plus((-1, 2), (1, 2)), (0, 1))
        self.assertEqual(minus((1, 6), (2, 3)), (-1, 2))
        self.assertEqual(times((-2, 3), (3, 2)), (-1, 1))
        self.assertEqual(times((0, 1), (-3, 7)), (0, 1))

    def test_two_hundred_figures(self):
        one = Fraction(HUGE, HUGE - 10)
        other = Fraction(-HUGE + 30, HUGE - 1)
        self.assertIs(less(pair(other), pair(one)), True)
        self.assert_tells(plus(pair(one), pair(other)), one + other)
        self.assert_tells(minus(pair(one), pair(other)), one - other)
        self.assert_tells(times(pair(one), pair(other)), one * other)


class UpAndDownTest(unittest.TestCase):
    def test_written_out(self):
        rows = (
            ((7, 2), 4, 3), ((-7, 2), -3, -4), ((1, 3), 1, 0), ((-1, 3), 0, -1),
            ((0, 1), 0, 0), ((5, 1), 5, 5), ((-5, 1), -5, -5),
        )
        for one, above, below in rows:
            self.assertEqual(up(one), above)
            self.assertEqual(down(one), below)

    def test_beside_pythons_own(self):
        for one in some_fractions():
            self.assertEqual(up(pair(one)), ceil(one))
            self.assertEqual(down(pair(one)), floor(one))
            self.assertEqual([type(up(pair(one))), type(down(pair(one)))], [int, int])

    def test_two_hundred_figures(self):
        self.assertEqual(up((HUGE, 2)), HUGE // 2 + HUGE % 2)
        self.assertEqual(down((-HUGE, 3)), floor(Fraction(-HUGE, 3)))


if __name__ == "__main__":
    unittest.main()
