"""[3.1], [3.2] and beaconvale.seen."""

import unittest
from fractions import Fraction
from itertools import product

from beaconvale.errors import OffGround
from beaconvale.ground import Ground
from beaconvale.seen import seen, sees_place, watched
from beaconvale.stretches import holds_place, joined

FAR = 10 ** 39 + 3      # 40 figures


def pair(value):
    return (value.numerator, value.denominator)


def told(*ends):
    return tuple((pair(Fraction(low)), pair(Fraction(high))) for low, high in ends)


def height(corners, place):
    for (left, low), (right, high) in zip(corners, corners[1:]):
        if left <= place <= right:
            return low + Fraction(high - low, right - left) * (place - left)
    return None


def looked_at(corners, spot, place):
    """[3.1] by its words: no ground strictly between is above the line of sight."""
    if place == spot[0]:
        return True
    end = height(corners, place)
    steep = (end - spot[1]) / (place - spot[0])
    low, high = sorted((Fraction(spot[0]), place))
    marks = [low] + [Fraction(x) for x, z in corners if low < x < high] + [high]
    between = marks[1:-1] + [(one + other) / 2 for one, other in zip(marks, marks[1:])]
    return all(height(corners, x) <= spot[1] + steep * (x - spot[0]) for x in between)


def small_grounds():
    for heights in product((0, 1, 3), repeat=5):
        yield list(zip((-3, -2, 0, 1, 3), heights))
    for heights in ((0, 2, 3, 2, 0, 1), (5, 0, 0, 1, 0, 5), (0, 1, 4, 0, 6, -2), (-3, -1, -4, -1, -5, -9)):
        yield list(zip((-4, -3, 0, 2, 3, 5), heights))


def standing_spots(corners):
    for x in range(corners[0][0], corners[-1][0] + 1):
        least = -(-height(corners, x) // 1)
        yield (x, least)
        yield (x, least + 1)
        yield (x, least + 4)


def hills():
    return Ground([(0, 0), (2, 2), (3, 0), (6, 6), (7, 0), (10, 20), (12, 0)])


class SeesPlaceTest(unittest.TestCase):
    def assert_sees(self, ground, spot, places):
        for place in places:
            self.assertIs(sees_place(ground, spot, pair(Fraction(place))), True, (spot, place))

    def assert_blind(self, ground, spot, places):
        for place in places:
            self.assertIs(sees_place(ground, spot, pair(Fraction(place))), False, (spot, place))

    def test_the_spots_own_place(self):
        ground = hills()
        for spot in ((0, 0), (0, 999), (2, 2), (2, 50), (6, 6), (6, FAR), (12, 0), (12, FAR), (5, 4), (5, 9)):
            self.assert_sees(ground, spot, [spot[0]])

    def test_the_own_place_below_a_spot_in_a_gorge(self):
        ground = Ground([(0, 90), (1, 0), (2, 90)])
        for z in (0, 1, 100, FAR):
            self.assert_sees(ground, (1, z), [0, "1/2", 1, "3/2", 2])

    def test_touching_a_corner_hides_nothing(self):
        # The line from (0, 0) rises by one each step: through (2, 2) and (6, 6).
        ground = hills()
        self.assert_sees(ground, (0, 0), [0, 1, 2, 6, 10])
        self.assert_blind(ground, (0, 0), ["9/4", 3, 5, Fraction(6 * FAR - 1, FAR), Fraction(6 * FAR + 1, FAR), 7, 12])

    def test_the_ends_of_a_shadow(self):
        # From (0, 4) past (2, 2): the shadow ends where 4 - x is 2 * (x - 3), at 10/3.
        ground = hills()
        self.assert_sees(ground, (0, 4), [2, "10/3", Fraction(10 * FAR + 1, 3 * FAR), 4, 6])
        self.assert_blind(ground, (0, 4), [Fraction(2 * FAR + 1, FAR), 3, Fraction(10 * FAR - 1, 3 * FAR)])

    def test_behind_a_corner(self):
        ground = Ground([(0, 0), (2, 4), (4, 0), (6, 3), (8, 0)])
        self.assert_blind(ground, (0, 0), [3, 4, 5, 6, 8])
        self.assert_blind(ground, (8, 0), [5, 4, 2, 1, 0])
        self.assert_sees(ground, (8, 0), [7, 6])
        # From (8, 3) the line past (6, 3) is level, and meets the slope below (2, 4) at 5/2.
        self.assert_sees(ground, (8, 3), [6, "5/2", "9/4", 2])
        self.assert_blind(ground, (8, 3), [5, Fraction(5 * FAR + 1, 2 * FAR), "7/4", 0])

    def test_uphill_and_downhill(self):
        slope = Ground([(0, 0), (2, 1), (4, 2), (6, 6), (8, 7)])
        self.assert_sees(slope, (0, 0), [1, 2, 3, 4, 5, 6])
        self.assert_blind(slope, (0, 0), [Fraction(6 * FAR + 1, FAR), 7, 8])
        self.assert_sees(slope, (8, 7), [7, "13/2", 6])
        self.assert_blind(slope, (8, 7), [Fraction(6 * FAR - 1, FAR), 5, 4, 0])
        self.assert_sees(slope, (8, 18), [8, 6, 4, 3, 2, 0])

    def test_along_straight_ground(self):
        straight = Ground([(0, 0), (1, 1), (3, 3), (5, 5)])
        for x in (0, 1, 2, 3, 5):
            self.assert_sees(straight, (x, x), [0, "1/2", 1, 2, 3, "9/2", 5])

    def test_a_corner_at_the_place_asked_does_not_hide_it(self):
        ground = Ground([(0, 0), (2, 4), (4, 0)])
        self.assert_sees(ground, (0, 0), [2])
        self.assert_sees(ground, (4, 0), [2])
        self.assert_sees(ground, (2, 4), [0, 1, 3, 4])

    def test_places_of_long_fractions(self):
        ground = Ground([(-FAR, 0), (0, FAR), (FAR, 0), (2 * FAR, 4 * FAR)])
        self.assert_sees(ground, (-FAR, 0), [Fraction(-1, FAR), Fraction(1 - FAR * FAR, FAR), 0])
        self.assert_blind(ground, (-FAR, 0), [Fraction(1, FAR), FAR])
        # From (-FAR, 0) past (0, FAR): x + FAR is 4 * (x - FAR) at 5/3 FAR.
        edge = Fraction(5 * FAR, 3)
        self.assert_sees(ground, (-FAR, 0), [edge, edge + Fraction(1, FAR), 2 * FAR])
        self.assert_blind(ground, (-FAR, 0), [edge - Fraction(1, FAR)])

    def test_refusals(self):
        ground = hills()
        for spot in ((2, 1), (0, -1), (-1, 99), (13, 99), (5, 3), (12, -1)):
            for place in ((0, 1), (spot[0], 1), (5, 2), (12, 1)):
                with self.assertRaises(OffGround):
                    sees_place(ground, spot, place)
        for place in ((-1, 1), (-1, FAR), (12 * FAR + 1, FAR), (13, 1), (-FAR, 1)):
            for spot in ((0, 0), (12, 0), (6, 6), (6, 99), (2, 1)):
                with self.assertRaises(OffGround):
                    sees_place(ground, spot, place)

    def test_small_grounds(self):
        for corners in small_grounds():
            ground = Ground(corners)
            first, last = corners[0][0], corners[-1][0]
            for spot in standing_spots(corners):
                for third in range(3 * first, 3 * last + 1):
                    place = Fraction(third, 3)
                    self.assertIs(sees_place(ground, spot, pair(place)), looked_at(corners, spot, place))


class SeenTest(unittest.TestCase):
    def assert_stretches(self, value):
        self.assertIs(type(value), tuple)
        for stretch in value:
            self.assertIs(type(stretch), tuple)
            for place in stretch:
                self.assertIs(type(place), tuple)
                self.assertEqual([type(number) for number in place], [int, int])
                self.assertEqual(pair(Fraction(*place)), place)
            self.assertLessEqual(Fraction(*stretch[0]), Fraction(*stretch[1]))
        for one, other in zip(value, value[1:]):
            self.assertLess(Fraction(*one[1]), Fraction(*other[0]))

    def assert_seen(self, ground, spot, *ends):
        self.assertEqual(seen(ground, spot), told(*ends))
        self.assert_stretches(seen(ground, spot))

    def test_all_of_it(self):
        self.assert_seen(Ground([(0, 0), (9, 5)]), (0, 0), (0, 9))
        self.assert_seen(Ground([(0, 0), (9, 5)]), (9, 5), (0, 9))
        self.assert_seen(Ground([(0, 0), (9, 9)]), (4, 70), (0, 9))
        self.assert_seen(Ground([(0, 9), (3, 0), (6, 0), (9, 9)]), (4, 0), (0, 9))
        self.assert_seen(Ground([(0, 0), (1, 1), (3, 3), (5, 5)]), (0, 0), (0, 5))
        self.assert_seen(Ground([(0, 0), (1, 1), (3, 3), (5, 5)]), (5, 5), (0, 5))

    def test_a_single_place_that_just_shows(self):
        ground = Ground([(0, 0), (2, 2), (3, 0), (6, 6), (7, 0), (8, 8), (9, 0)])
        self.assert_seen(ground, (0, 0), (0, 2), (6, 6), (8, 8))
        mirror = Ground([(-9, 0), (-8, 8), (-7, 0), (-6, 6), (-3, 0), (-2, 2), (0, 0)])
        self.assert_seen(mirror, (0, 0), (-8, -8), (-6, -6), (-2, 0))

    def test_a_single_place_and_the_ground_behind_it(self):
        ground = Ground([(0, 0), (2, 2), (3, 0), (6, 6), (7, 8), (8, 0)])
        self.assert_seen(ground, (0, 0), (0, 2), (6, 7))
        along = Ground([(0, 0), (2, 2), (3, 0), (6, 6), (7, 7), (8, 0)])
        self.assert_seen(along, (0, 0), (0, 2), (6, 7))

    def test_shadows_to_either_side(self):
        ground = Ground([(-6, 6), (-3, 0), (-2, 2), (0, 0), (2, 2), (3, 0), (6, 6)])
        self.assert_seen(ground, (0, 4), (-6, "-10/3"), (-2, 2), ("10/3", 6))
        self.assert_seen(ground, (0, 0), (-6, -6), (-2, 2), (6, 6))
        self.assert_seen(ground, (0, 99), (-6, 6))

    def test_behind_the_highest_nothing(self):
        ground = Ground([(0, 0), (2, 9), (4, 0), (6, 8), (8, 0)])
        self.assert_seen(ground, (0, 0), (0, 2))
        self.assert_seen(ground, (2, 9), (0, 6))
        self.assert_seen(ground, (6, 8), (2, 8))

    def test_a_dip_behind_a_dip_is_hidden_by_the_highest_passed(self):
        # From (0, 0) the line past (2, 4) stays above (4, 5) and meets the rise to (8, 20) at 50/7.
        ground = Ground([(0, 0), (2, 4), (3, 0), (4, 5), (5, 0), (8, 20)])
        self.assert_seen(ground, (0, 0), (0, 2), ("50/7", 8))

    def test_from_between_two_corners(self):
        ground = Ground([(0, 0), (4, 8), (8, 0)])
        self.assert_seen(ground, (1, 2), (0, 4))
        self.assert_seen(ground, (7, 2), (4, 8))
        # The line from (1, 14) past (4, 8) runs along the far slope.
        self.assert_seen(ground, (1, 13), (0, 4))
        self.assert_seen(ground, (1, 14), (0, 8))
        self.assert_seen(ground, (1, 15), (0, 8))

    def test_long_numbers(self):
        ground = Ground([(-FAR, 0), (0, FAR), (FAR, 0), (2 * FAR, 4 * FAR)])
        self.assert_seen(ground, (-FAR, 0), (-FAR, 0), (Fraction(5 * FAR, 3), 2 * FAR))
        self.assert_seen(ground, (FAR, 0), (0, 2 * FAR))
        self.assert_seen(ground, (2 * FAR, 4 * FAR), (-FAR, 2 * FAR))

    def test_refusals(self):
        for spot in ((2, 1), (0, -1), (-1, 99), (13, 99), (5, 3), (12, -1)):
            with self.assertRaises(OffGround):
                seen(hills(), spot)

    def test_small_grounds(self):
        for corners in small_grounds():
            ground = Ground(corners)
            for spot in standing_spots(corners):
                answer = seen(ground, spot)
                self.assert_stretches(answer)
                ends = {Fraction(*place) for stretch in answer for place in stretch}
                marks = sorted(ends | {Fraction(x) for x, z in corners})
                places = marks + [(one + other) / 2 for one, other in zip(marks, marks[1:])]
                for place in places:
                    self.assertIs(holds_place(answer, pair(place)), looked_at(corners, spot, place))
                self.assertTrue(corners[0][0] <= min(ends) and max(ends) <= corners[-1][0])

    def test_agrees_with_sees_place_on_many_corners(self):
        heights = (5, 0, 7, 3, 3, 9, 1, 4, 12, 0, 2, 6, 6, 8, 1, 15, 3, 0, 5, 11, 2, 9, 4, 20)
        corners = [(3 * k - 30, z) for k, z in enumerate(heights)]
        ground = Ground(corners)
        for spot in ((-30, 5), (-6, 14), (0, 2), (15, 15), (39, 20), (39, 60), (4, 7)):
            answer = seen(ground, spot)
            self.assert_stretches(answer)
            for fifth in range(5 * -30, 5 * 39 + 1):
                place = pair(Fraction(fifth, 5))
                self.assertIs(holds_place(answer, place), sees_place(ground, spot, place))


class WatchedTest(unittest.TestCase):
    def test_of_no_spots(self):
        self.assertEqual(watched(hills(), []), ())

    def test_of_one(self):
        ground = hills()
        for spot in ((0, 0), (0, 4), (6, 6), (12, 0), (12, 40)):
            self.assertEqual(watched(ground, [spot]), seen(ground, spot))
            self.assertEqual(watched(ground, [spot, spot]), seen(ground, spot))

    def test_of_four(self):
        ground = Ground([(0, 0), (2, 9), (4, 0), (6, 9), (8, 0), (10, 9), (12, 0)])
        self.assertEqual(watched(ground, [(0, 0), (4, 0)]), told((0, 6)))
        self.assertEqual(watched(ground, [(0, 0), (12, 0)]), told((0, 2), (10, 12)))
        self.assertEqual(watched(ground, [(12, 0), (0, 0)]), told((0, 2), (10, 12)))
        self.assertEqual(watched(ground, [(0, 0), (4, 0), (12, 0)]), told((0, 6), (10, 12)))
        self.assertEqual(watched(ground, [(8, 0), (0, 0), (12, 0), (4, 0)]), told((0, 12)))

    def test_agrees_with_seen(self):
        ground = hills()
        spots = [(0, 0), (3, 1), (7, 0), (12, 0), (5, 9)]
        for four in product(spots, repeat=4):
            answer = watched(ground, list(four))
            found = ()
            for spot in four:
                found = joined(seen(ground, spot), found)
            self.assertEqual(answer, found)
        for half in range(25):
            place = pair(Fraction(half, 2))
            told_one = any(sees_place(ground, spot, place) for spot in spots[:4])
            self.assertIs(holds_place(watched(ground, spots[:4]), place), told_one)

    def test_refusals_at_any_place_of_the_list(self):
        ground = hills()
        good = [(0, 0), (6, 99), (12, 0)]
        for bad in ((2, 1), (-1, 99), (13, 99), (0, -1)):
            for k in range(4):
                with self.assertRaises(OffGround):
                    watched(ground, good[:k] + [bad] + good[k:])
            with self.assertRaises(OffGround):
                watched(ground, [bad])

    def test_refused_though_all_is_seen_already(self):
        ground = Ground([(0, 0), (9, 5)])
        with self.assertRaises(OffGround):
            watched(ground, [(0, 0), (9, 4)])

    def test_the_list_is_neither_changed_nor_kept(self):
        ground = hills()
        spots = [(12, 0), (0, 0)]
        answer = watched(ground, spots)
        self.assertEqual(spots, [(12, 0), (0, 0)])
        spots.append((5, 90))
        spots[0] = (5, 90)
        self.assertEqual(watched(ground, [(12, 0), (0, 0)]), answer)
        self.assertEqual(ground.corners, hills().corners)


class AskedAgainTest(unittest.TestCase):
    """[0.2]: asking changes neither the ground nor a later answer."""

    def test_asked_twice(self):
        ground = hills()
        for turn in range(2):
            self.assertIs(sees_place(ground, (0, 0), (6, 1)), True)
            self.assertEqual(seen(ground, (0, 0))[:2], told((0, 2), (6, 6)))
            with self.assertRaises(OffGround):
                seen(ground, (2, 1))
            self.assertEqual(ground.corners, hills().corners)


if __name__ == "__main__":
    unittest.main()
