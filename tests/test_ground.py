"""[2.1], [2.2] and beaconvale.ground."""

import unittest
from fractions import Fraction
from itertools import product

from beaconvale.errors import BadGround, OffGround, ValeError
from beaconvale.ground import Ground, clear, ground_at, hinder, least_top, rope, stands

FAR = 10 ** 55 + 3      # 56 figures


def level(count):
    return [(3 * k, k % 2) for k in range(count)]


def hills():
    return Ground([(0, 0), (3, 4), (6, 1), (9, 4), (12, 0)])


def height(corners, x):
    for (left, low), (right, high) in zip(corners, corners[1:]):
        if left <= x <= right:
            return low + Fraction(high - low, right - left) * (x - left)
    return None


def line_height(one, other, x):
    return one[1] + Fraction(other[1] - one[1], other[0] - one[0]) * (x - one[0])


def first_hindering(corners, one, other):
    low, high = min(one[0], other[0]), max(one[0], other[0])
    for k, (x, z) in enumerate(corners):
        if low < x < high and z > line_height(one, other, x):
            return k
    return None


def small_grounds():
    for heights in product((0, 1, 3), repeat=4):
        yield list(zip((-2, 0, 1, 3), heights))
    for heights in ((0, 2, 3, 2, 0, 1), (5, 0, 0, 1, 0, 5), (0, 1, 4, 0, 6, -2), (-3, -1, -4, -1, -5, -9)):
        yield list(zip((-4, -3, 0, 2, 3, 5), heights))


def standing_spots(corners):
    found = []
    for x in range(corners[0][0], corners[-1][0] + 1):
        least = -(-height(corners, x) // 1)
        found.extend([(x, least), (x, least + 2)])
    return found


class MakingTest(unittest.TestCase):
    def test_how_many_corners(self):
        for count in (2, 3, 39, 40):
            self.assertEqual(Ground(level(count)).corners, level(count))
        for count in (0, 1, 41, 45):
            with self.assertRaises(BadGround):
                Ground(level(count))

    def test_places_that_are_alike_or_fall(self):
        for count in (2, 3, 7, 40):
            for k in range(1, count):
                for back in (0, 1, 4):
                    corners = level(count)
                    corners[k] = (corners[k - 1][0] - back, 2)
                    with self.assertRaises(BadGround):
                        Ground(corners)

    def test_the_least_step_ascends(self):
        self.assertEqual(Ground([(-1, 5), (0, 5), (1, -5)]).corners, [(-1, 5), (0, 5), (1, -5)])
        self.assertEqual(Ground([(FAR - 1, FAR), (FAR, -FAR)]).corners, [(FAR - 1, FAR), (FAR, -FAR)])

    def test_a_refusal_changes_nothing(self):
        corners = [(0, 0), (0, 1)]
        with self.assertRaises(ValeError):
            Ground(corners)
        self.assertEqual(corners, [(0, 0), (0, 1)])

    def test_the_list_handed_in_is_not_kept(self):
        corners = [(0, 0), (4, 4), (8, 0)]
        ground = Ground(corners)
        self.assertIsNot(ground.corners, corners)
        self.assertIs(type(ground.corners), list)
        corners[1] = (4, 99)
        corners.append((20, 20))
        self.assertEqual(ground.corners, [(0, 0), (4, 4), (8, 0)])
        self.assertEqual(ground_at(ground, (4, 1)), (4, 1))
        self.assertIs(stands(ground, (20, 20)), False)

    def test_two_grounds_of_one_list_share_nothing(self):
        corners = level(3)
        self.assertIsNot(Ground(corners).corners, Ground(corners).corners)


class GroundAtTest(unittest.TestCase):
    def test_at_corners_between_and_at_both_ends(self):
        ground = hills()
        for x, z in ground.corners:
            self.assertEqual(ground_at(ground, (x, 1)), (z, 1))
        self.assertEqual(ground_at(ground, (1, 1)), (4, 3))
        self.assertEqual(ground_at(ground, (9, 2)), (5, 2))
        self.assertEqual(ground_at(ground, (1, 7)), (4, 21))
        self.assertEqual(ground_at(ground, (83, 7)), (4, 21))

    def test_just_off_either_end(self):
        ground = hills()
        for place in ((-1, 1), (-1, FAR), (13, 1), (12 * FAR + 1, FAR)):
            with self.assertRaises(OffGround):
                ground_at(ground, place)
        self.assertEqual(ground_at(ground, (1, FAR)), (4, 3 * FAR))

    def test_forty_corners(self):
        corners = level(40)
        ground = Ground(corners)
        for sixth in range(0, 6 * corners[-1][0] + 1):
            place = Fraction(sixth, 6)
            value = height(corners, place)
            told = ground_at(ground, (place.numerator, place.denominator))
            self.assertEqual(told, (value.numerator, value.denominator))
            self.assertIs(type(told), tuple)

    def test_large_numbers(self):
        ground = Ground([(-FAR, -FAR), (FAR, FAR)])
        self.assertEqual(ground_at(ground, (FAR, 7)), (FAR, 7) if FAR % 7 else (FAR // 7, 1))
        with self.assertRaises(OffGround):
            ground_at(ground, (-FAR - 1, 1))


class StandsTest(unittest.TestCase):
    def test_on_above_below_and_beside(self):
        rows = (
            ((3, 4), True), ((3, 5), True), ((3, 3), False),         # at a corner
            ((5, 2), True), ((5, 3), True), ((5, 1), False),         # between two
            ((1, 1), False), ((1, 2), True),                         # ground at 4/3
            ((0, 0), True), ((0, -1), False), ((12, 0), True), ((12, -1), False),
            ((-1, 9), False), ((13, 9), False), ((-1, 0), False), ((13, 0), False),
            ((FAR, FAR), False), ((6, FAR), True), ((6, -FAR), False),
        )
        for spot, told in rows:
            self.assertIs(stands(hills(), spot), told, spot)

    def test_small_grounds(self):
        for corners in small_grounds():
            ground = Ground(corners)
            for x in range(-6, 8):
                value = height(corners, x)
                for z in range(-10, 8):
                    self.assertIs(stands(ground, (x, z)), value is not None and z >= value)


class ClearTest(unittest.TestCase):
    def assert_hinder(self, ground, one, other, k):
        for first, second in ((one, other), (other, one)):
            self.assertEqual(hinder(ground, first, second), k)
            self.assertIs(clear(ground, first, second), k is None)

    def test_clear_and_hindered(self):
        ground = hills()
        self.assert_hinder(ground, (0, 9), (12, 9), None)
        self.assert_hinder(ground, (0, 0), (12, 0), 1)
        self.assert_hinder(ground, (0, 0), (6, 1), 1)
        self.assert_hinder(ground, (6, 1), (12, 0), 3)
        self.assert_hinder(ground, (0, 6), (12, 0), 3)

    def test_the_first_corner_of_several_whichever_spot_is_first(self):
        ground = Ground([(0, 0), (1, 1), (2, 5), (3, 9), (4, 5), (5, 0)])
        self.assert_hinder(ground, (0, 0), (5, 0), 1)
        self.assert_hinder(ground, (0, 3), (5, 0), 2)
        self.assert_hinder(ground, (0, 0), (5, 20), None)

    def test_just_touching_is_clear(self):
        ground = hills()
        self.assert_hinder(ground, (0, 4), (12, 4), None)
        self.assert_hinder(ground, (0, 5), (12, 3), 3)
        self.assert_hinder(ground, (0, 3), (12, 4), 1)
        self.assert_hinder(ground, (1, 2), (5, 6), None)
        self.assert_hinder(ground, (1, 2), (5, 5), 1)

    def test_a_corner_at_a_place_of_the_two_is_not_between(self):
        ground = hills()
        self.assert_hinder(ground, (3, 4), (9, 4), None)
        self.assert_hinder(ground, (3, 4), (6, 1), None)

    def test_two_spots_of_one_place(self):
        ground = hills()
        self.assert_hinder(ground, (3, 4), (3, 40), None)
        self.assert_hinder(ground, (5, 2), (5, 2), None)
        self.assert_hinder(ground, (0, 0), (0, 1), None)

    def test_a_spot_that_does_not_stand(self):
        ground = hills()
        for bad in ((3, 3), (-1, 50), (13, 50), (0, -1), (1, 1)):
            for good in ((0, 9), (12, 0), (1, 2), (3, 4), (0, 0)):
                for told in (clear, hinder):
                    with self.assertRaises(OffGround):
                        told(ground, bad, good)
                    with self.assertRaises(OffGround):
                        told(ground, good, bad)
            with self.assertRaises(OffGround):
                clear(ground, bad, bad)
            with self.assertRaises(OffGround):
                hinder(ground, bad, bad)

    def test_small_grounds(self):
        for corners in small_grounds():
            ground = Ground(corners)
            for one, other in product(standing_spots(corners), repeat=2):
                self.assert_hinder(ground, one, other, first_hindering(corners, one, other))

    def test_large_numbers(self):
        ground = Ground([(-FAR, 0), (0, FAR), (FAR, 0)])
        self.assert_hinder(ground, (-FAR, FAR), (FAR, FAR), None)
        self.assert_hinder(ground, (-FAR, FAR), (FAR, FAR - 1), 1)


class LeastTopTest(unittest.TestCase):
    def test_rounded_up(self):
        ground = Ground([(0, 0), (2, 3), (5, 0), (9, 0)])
        self.assertEqual(least_top(ground, 5, (0, 0)), 8)       # the line comes to 15/2
        self.assertEqual(least_top(ground, 9, (0, 0)), 14)      # to 27/2
        self.assertEqual(least_top(ground, 9, (0, 1)), 10)      # to 10 itself
        self.assertEqual(least_top(ground, 1, (0, 0)), 2)       # the ground to 3/2

    def test_below_nought(self):
        ground = Ground([(0, 0), (2, -3), (5, -20)])
        self.assertEqual(least_top(ground, 1, (0, 0)), -1)      # the ground at -3/2
        self.assertEqual(least_top(ground, 5, (0, 0)), -7)      # the line comes to -15/2

    def test_the_spots_own_place(self):
        ground = hills()
        self.assertEqual(least_top(ground, 3, (3, 50)), 4)
        self.assertEqual(least_top(ground, 1, (1, 50)), 2)
        self.assertEqual(least_top(ground, 0, (0, 0)), 0)

    def test_to_either_side(self):
        ground = hills()
        self.assertEqual(least_top(ground, 12, (6, 1)), 7)
        self.assertEqual(least_top(ground, 0, (6, 1)), 7)
        self.assertEqual(least_top(ground, 12, (0, 0)), 16)
        self.assertEqual(least_top(ground, 0, (12, 0)), 16)

    def test_with_nothing_between(self):
        ground = hills()
        self.assertEqual(least_top(ground, 3, (0, 0)), 4)
        self.assertEqual(least_top(ground, 2, (1, 2)), 3)
        self.assertEqual(least_top(ground, 0, (3, 4)), 0)

    def test_a_spot_high_up_asks_for_the_ground_alone(self):
        self.assertEqual(least_top(hills(), 12, (0, 1000)), 0)

    def test_refusals(self):
        ground = hills()
        for x, spot in ((6, (3, 3)), (6, (-1, 9)), (6, (13, 9)), (3, (3, 3)), (-1, (3, 4)), (13, (3, 4)), (13, (13, 0))):
            with self.assertRaises(OffGround):
                least_top(ground, x, spot)

    def test_small_grounds(self):
        for corners in small_grounds():
            ground = Ground(corners)
            for spot in standing_spots(corners):
                for x in range(corners[0][0], corners[-1][0] + 1):
                    told = least_top(ground, x, spot)
                    self.assertIs(type(told), int)
                    self.assertIs(clear(ground, (x, told), spot), True)
                    below = (x, told - 1)
                    self.assertFalse(stands(ground, below) and clear(ground, below, spot))

    def test_large_numbers(self):
        ground = Ground([(-FAR, 0), (0, FAR), (FAR, 0)])
        self.assertEqual(least_top(ground, FAR, (-FAR, 0)), 2 * FAR)


class RopeTest(unittest.TestCase):
    def assert_rope(self, ground, one, other, told):
        self.assertEqual(rope(ground, one, other), told)
        self.assertEqual(rope(ground, other, one), told[::-1])
        self.assertIs(type(rope(ground, one, other)), list)

    def test_with_no_bend(self):
        ground = hills()
        self.assert_rope(ground, (0, 9), (12, 9), [(0, 9), (12, 9)])
        self.assert_rope(ground, (3, 4), (6, 1), [(3, 4), (6, 1)])
        self.assert_rope(ground, (4, 3), (5, 2), [(4, 3), (5, 2)])

    def test_with_one_bend(self):
        ground = hills()
        self.assert_rope(ground, (0, 0), (6, 1), [(0, 0), (3, 4), (6, 1)])
        self.assert_rope(ground, (6, 1), (12, 0), [(6, 1), (9, 4), (12, 0)])
        self.assert_rope(ground, (0, 0), (12, 30), [(0, 0), (12, 30)])

    def test_with_several_bends(self):
        self.assert_rope(hills(), (0, 0), (12, 0), [(0, 0), (3, 4), (9, 4), (12, 0)])
        dome = [(0, 0), (1, 5), (2, 8), (3, 9), (4, 8), (5, 0)]
        self.assert_rope(Ground(dome), (0, 0), (5, 0), dome)
        bowl = [(0, 9), (1, 4), (2, 1), (3, 1), (4, 4), (5, 9)]
        self.assert_rope(Ground(bowl), (0, 9), (5, 9), [(0, 9), (5, 9)])

    def test_a_later_corner_lifts_the_rope_off_earlier_ones(self):
        ground = Ground([(0, 0), (1, 2), (2, 3), (3, 3), (4, 20), (5, 0)])
        self.assert_rope(ground, (0, 0), (5, 0), [(0, 0), (4, 20), (5, 0)])

    def test_corners_just_on_the_rope_are_no_bends(self):
        ground = hills()
        self.assert_rope(ground, (0, 4), (12, 4), [(0, 4), (12, 4)])
        straight = Ground([(0, 0), (1, 1), (2, 2), (4, 4), (5, 4), (6, 4), (8, 0)])
        self.assert_rope(straight, (0, 0), (8, 0), [(0, 0), (4, 4), (6, 4), (8, 0)])

    def test_corners_at_the_places_of_the_ends_are_not_between(self):
        self.assert_rope(hills(), (3, 5), (9, 6), [(3, 5), (9, 6)])
        self.assert_rope(hills(), (0, 1), (9, 6), [(0, 1), (3, 4), (9, 6)])

    def test_the_list_told_is_the_askers_own(self):
        ground = hills()
        first = rope(ground, (0, 0), (12, 0))
        second = rope(ground, (0, 0), (12, 0))
        self.assertIsNot(first, second)
        first.append((99, 99))
        first[1] = (1, 1)
        self.assertEqual(second, [(0, 0), (3, 4), (9, 4), (12, 0)])
        self.assertEqual(rope(ground, (0, 0), (12, 0)), second)
        self.assertEqual(ground.corners, hills().corners)

    def test_a_rope_over_all_corners_is_not_the_grounds_own_list(self):
        ground = Ground([(0, 0), (1, 1)])
        told = rope(ground, (0, 0), (1, 1))
        self.assertEqual(told, [(0, 0), (1, 1)])
        told.clear()
        self.assertEqual(ground.corners, [(0, 0), (1, 1)])

    def test_a_spot_that_does_not_stand(self):
        ground = hills()
        for bad in ((3, 3), (-1, 50), (13, 50), (9, 3)):
            for good in ((0, 9), (12, 0), (1, 2)):
                with self.assertRaises(OffGround):
                    rope(ground, bad, good)
                with self.assertRaises(OffGround):
                    rope(ground, good, bad)

    def test_small_grounds(self):
        for corners in small_grounds():
            ground = Ground(corners)
            for one, other in product(standing_spots(corners), repeat=2):
                if one[0] < other[0]:
                    told = rope(ground, one, other)
                    self.assert_drawn_tight(corners, one, other, told)
                    self.assertEqual(rope(ground, other, one), told[::-1])

    def assert_drawn_tight(self, corners, one, other, told):
        between = [c for c in corners if one[0] < c[0] < other[0]]
        self.assertEqual((told[0], told[-1]), (one, other))
        for bend in told[1:-1]:
            self.assertIn(bend, between)
        for left, bend, right in zip(told, told[1:], told[2:]):
            self.assertGreater(bend[1], line_height(left, right, bend[0]))
        for x, z in between:
            self.assertLessEqual(z, height(told, x))


class NothingChangesTest(unittest.TestCase):
    """[0.2]: asking changes neither the ground nor a later answer."""

    def test_asked_twice(self):
        ground = hills()
        for turn in range(2):
            self.assertEqual(ground_at(ground, (9, 2)), (5, 2))
            self.assertEqual(hinder(ground, (12, 0), (0, 0)), 1)
            self.assertEqual(least_top(ground, 12, (0, 0)), 16)
            self.assertEqual(rope(ground, (12, 0), (0, 0)), [(12, 0), (9, 4), (3, 4), (0, 0)])
            with self.assertRaises(OffGround):
                rope(ground, (12, 0), (3, 3))
            self.assertEqual(ground.corners, hills().corners)

    def test_two_grounds_side_by_side(self):
        one = hills()
        other = Ground([(0, 0), (12, 0)])
        self.assertIs(clear(one, (0, 0), (12, 0)), False)
        self.assertIs(clear(other, (0, 0), (12, 0)), True)
        self.assertIs(clear(one, (0, 0), (12, 0)), False)


if __name__ == "__main__":
    unittest.main()
