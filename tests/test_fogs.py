"""[5.1] and beaconvale.fogs."""

import unittest
from itertools import combinations_with_replacement, product

from beaconvale.fogs import box_at, foggy, foggy_all, is_fog, meets
from beaconvale.ground import Ground
from vales import FAR, touches

STILL = (2, 4, 1, 3, 5, 9, 0, 0)


def hour_by_hour(fog, one, other):
    left, right, low, high, first, last, drift, rise = fog
    found = []
    for hour in range(first, last + 1):
        along, upwards = drift * (hour - first), rise * (hour - first)
        if touches((left + along, right + along, low + upwards, high + upwards), one, other):
            found.append(hour)
    return found


class IsFogTest(unittest.TestCase):
    def test_fogs(self):
        for fog in (
                STILL, (0, 0, 0, 0, 0, 0, 0, 0), (-3, -3, -2, -2, -1, -1, -9, -9), (-FAR, FAR, -FAR, FAR, -FAR, FAR, FAR, -FAR),
                (1, 2, 1, 2, 1, 2, 7, -7)):
            self.assertIs(is_fog(fog), True, fog)

    def test_left_above_right_and_their_like(self):
        for fog in (
                (5, 4, 1, 3, 5, 9, 0, 0), (2, 4, 4, 3, 5, 9, 0, 0), (2, 4, 1, 3, 10, 9, 0, 0),
                (FAR, FAR - 1, 1, 3, 5, 9, 0, 0), (0, -1, 0, 0, 0, 0, 0, 0), (0, 0, 0, -1, 0, 0, 0, 0), (0, 0, 0, 0, 0, -1, 0, 0)):
            self.assertIs(is_fog(fog), False, fog)

    def test_tuples_of_another_length(self):
        for size in (0, 1, 4, 7, 9, 16, 45):
            self.assertIs(is_fog((0,) * size), False, size)
        self.assertIs(is_fog(STILL[:7]), False)
        self.assertIs(is_fog(STILL + (0,)), False)

    def test_things_of_other_kinds(self):
        for value in (
                list(STILL), [], "", "24135900", "fog", None, True, False, 0, 8, FAR, {}, dict.fromkeys(range(8)),
                {1, 2, 3, 4, 5, 6, 7, 8}, range(8), b"12345678", Ground([(0, 0), (1, 1)]), is_fog, tuple, (STILL,),
                [STILL], iter(STILL)):
            self.assertIs(is_fog(value), False, value)

    def test_something_else_among_the_numbers(self):
        for k in range(8):
            for bad in (True, False, "1", "", None, (1,), (), [1], {}, Ground):
                for fog in (STILL, (0, 0, 0, 0, 0, 0, 0, 0), (0, 1, 0, 1, 0, 1, 0, 1)):
                    value = fog[:k] + (bad,) + fog[k + 1:]
                    self.assertIs(is_fog(value), False, value)
        self.assertIs(is_fog(("1",) * 8), False)
        self.assertIs(is_fog((True,) * 8), False)

    def test_what_is_asked_is_not_changed(self):
        value = [2, 4, 1, 3, 5, 9, 0, 0]
        is_fog(value)
        self.assertEqual(value, [2, 4, 1, 3, 5, 9, 0, 0])


class BoxAtTest(unittest.TestCase):
    def test_written_out(self):
        rows = (
            (STILL, 5, (2, 4, 1, 3)), (STILL, 7, (2, 4, 1, 3)), (STILL, 9, (2, 4, 1, 3)),
            (STILL, 4, None), (STILL, 10, None), (STILL, 0, None), (STILL, -7, None),
            ((2, 4, 1, 3, 5, 9, 10, 0), 5, (2, 4, 1, 3)), ((2, 4, 1, 3, 5, 9, 10, 0), 6, (12, 14, 1, 3)),
            ((2, 4, 1, 3, 5, 9, -10, 100), 8, (-28, -26, 301, 303)),
            ((2, 4, 1, 3, 5, 9, 10, -100), 9, (42, 44, -399, -397)),
            ((2, 4, 1, 3, 5, 9, 10, -100), 10, None), ((2, 4, 1, 3, 5, 9, 10, -100), 4, None),
            ((0, 0, 0, 0, -3, -3, 5, 5), -3, (0, 0, 0, 0)), ((0, 0, 0, 0, -3, -3, 5, 5), -2, None),
            ((0, 0, 0, 0, -3, -3, 5, 5), -4, None),
            ((-1, 1, -2, 2, -4, 4, 1, -1), 0, (3, 5, -6, -2)), ((-1, 1, -2, 2, -4, 4, 1, -1), -4, (-1, 1, -2, 2)),
            ((0, 1, 0, 1, -FAR, FAR, 1, -2), 0, (FAR, FAR + 1, -2 * FAR, 1 - 2 * FAR)),
            ((0, 1, 0, 1, -FAR, FAR, FAR, 0), FAR, (2 * FAR * FAR, 2 * FAR * FAR + 1, 0, 1)),
            ((0, 1, 0, 1, -FAR, FAR, FAR, 0), FAR + 1, None),
        )
        for fog, hour, answer in rows:
            self.assertEqual(box_at(fog, hour), answer, (fog, hour))
            self.assertIn(type(box_at(fog, hour)), (tuple, type(None)))


class MeetsTest(unittest.TestCase):
    BOX = (0, 4, 0, 2)

    def assert_meets(self, box, one, other, answer):
        self.assertIs(meets(box, one, other), answer, (box, one, other))
        self.assertIs(meets(box, other, one), answer, (box, other, one))

    def test_through_the_box(self):
        for one, other in (((-1, 1), (5, 1)), ((2, -3), (2, 9)), ((-1, -1), (5, 3)), ((-1, 3), (5, -1)), ((-1, 1), (1, 3))):
            self.assert_meets(self.BOX, one, other, True)

    def test_a_side_is_touched(self):
        for one, other in (
                ((-3, 2), (9, 2)), ((-3, 0), (9, 0)), ((0, -3), (0, 9)), ((4, -3), (4, 9)), ((1, 2), (3, 2)),
                ((2, 2), (5, 9)), ((0, 1), (-5, 1)), ((4, 1), (9, 9)), ((4, 2), (9, 2)), ((0, 0), (0, -4))):
            self.assert_meets(self.BOX, one, other, True)

    def test_a_corner_is_touched(self):
        for one, other in (
                ((3, 3), (5, 1)), ((-1, 1), (1, 3)), ((-1, 1), (1, -1)), ((3, -1), (5, 1)), ((4, 2), (7, 5)),
                ((-2, -1), (0, 0)), ((-2, 0), (2, 4)), ((2, 4), (6, 0))):
            self.assert_meets(self.BOX, one, other, True)

    def test_ends_in_it_and_lies_within_it(self):
        for one, other in (
                ((-5, 7), (1, 1)), ((9, 9), (3, 1)), ((1, 1), (3, 1)), ((0, 0), (4, 2)), ((1, 1), (1, 2)), ((2, 0), (2, 2))):
            self.assert_meets(self.BOX, one, other, True)

    def test_passes_by(self):
        for one, other in (
                ((3, 4), (6, 1)), ((-1, 2), (1, 4)), ((-2, 1), (1, -2)), ((3, -2), (6, 1)),     # near a corner
                ((-3, 3), (9, 3)), ((-3, -1), (9, -1)), ((-1, -3), (-1, 9)), ((5, -3), (5, 9)),
                ((-4, 1), (-1, 1)), ((5, 1), (9, 1)), ((2, 3), (2, 9)), ((2, -1), (2, -9)),     # stops ahead of it
                ((-9, -9), (-1, -1)), ((5, 3), (9, 5)), ((3, 3), (9, 9))):
            self.assert_meets(self.BOX, one, other, False)

    def test_one_point(self):
        for spot in product(range(-2, 7), range(-2, 5)):
            self.assert_meets(self.BOX, spot, spot, 0 <= spot[0] <= 4 and 0 <= spot[1] <= 2)

    def test_a_box_that_is_a_point_or_a_bar(self):
        self.assert_meets((3, 3, 2, 2), (0, 0), (6, 4), True)
        self.assert_meets((3, 3, 2, 2), (0, 0), (6, 5), False)
        self.assert_meets((3, 3, 2, 2), (6, 4), (9, 6), False)
        self.assert_meets((3, 3, 2, 2), (3, 2), (3, 2), True)
        self.assert_meets((3, 3, 0, 9), (0, 0), (6, 4), True)
        self.assert_meets((0, 9, 2, 2), (0, 0), (6, 4), True)
        self.assert_meets((4, 9, 2, 2), (0, 0), (6, 4), False)

    def test_great_numbers(self):
        self.assert_meets((-1, 1, -1, 1), (-FAR, -FAR), (FAR, FAR), True)
        self.assert_meets((1, FAR, -FAR, 0), (-FAR, -FAR + 1), (FAR - 1, FAR), False)
        self.assert_meets((0, FAR, -FAR, 0), (-FAR, -FAR), (FAR, FAR), True)
        self.assert_meets((1, FAR, -FAR, 0), (-FAR, -FAR), (FAR, FAR), False)

    def test_all_small_ones(self):
        sides = ((0, 0), (0, 1), (0, 3))
        spots = list(product(range(-2, 6), range(-1, 5)))
        for across, upwards in product(sides, repeat=2):
            for one, other in combinations_with_replacement(spots, 2):
                box = across + upwards
                self.assert_meets(box, one, other, touches(box, one, other))


class FoggyTest(unittest.TestCase):
    def assert_foggy(self, fog, one, other, *hours):
        for first, second in ((one, other), (other, one)):
            answer = foggy(fog, first, second)
            self.assertEqual(answer, hours, (fog, first, second))
            self.assertIs(type(answer), tuple)
            for pair in answer:
                self.assertIs(type(pair), tuple)

    def test_stays(self):
        self.assert_foggy(STILL, (0, 2), (9, 2), (5, 9))
        self.assert_foggy(STILL, (0, 4), (9, 4))
        self.assert_foggy(STILL, (3, 2), (3, 2), (5, 9))
        self.assert_foggy(STILL, (3, 4), (3, 4))
        self.assert_foggy(STILL, (2, 5), (6, 1), (5, 9))        # touches its corner (4, 3)
        self.assert_foggy(STILL, (2, 6), (6, 2))
        self.assert_foggy((2, 4, 1, 3, 7, 7, 0, 0), (0, 2), (9, 2), (7, 7))

    def test_drifts_to_either_side(self):
        # Its places at hour t are 3 * (t - 10) to 3 * (t - 10) + 1.
        self.assert_foggy((0, 1, 0, 9, 10, 99, 3, 0), (20, 5), (40, 5), (17, 23))
        self.assert_foggy((0, 1, 0, 9, 10, 20, 3, 0), (20, 5), (40, 5), (17, 20))
        self.assert_foggy((0, 1, 0, 9, 10, 16, 3, 0), (20, 5), (40, 5))
        self.assert_foggy((0, 1, 0, 9, 10, 99, -3, 0), (-20, 5), (-40, 5), (17, 23))
        self.assert_foggy((0, 1, 0, 9, 10, 99, -3, 0), (20, 5), (40, 5))
        self.assert_foggy((0, 1, 0, 9, 10, 99, 3, 0), (-9, 5), (8, 5), (10, 12))

    def test_rises_and_sinks(self):
        # Its heights at hour t are 2 * t to 2 * t + 1.
        self.assert_foggy((0, 9, 0, 1, 0, 99, 0, 2), (3, 10), (5, 20), (5, 10))
        self.assert_foggy((0, 9, 0, 1, 0, 99, 0, 2), (-8, 11), (5, 11), (5, 5))
        self.assert_foggy((0, 9, 0, 0, 0, 99, 0, 2), (-8, 11), (5, 11))
        self.assert_foggy((0, 9, 0, 1, 0, 99, 0, -2), (3, -10), (5, -20), (5, 10))
        self.assert_foggy((0, 9, 0, 1, 0, 7, 0, -2), (3, -10), (5, -20), (5, 7))

    def test_comes_to_a_slanting_line_and_leaves_it(self):
        # The corner (x, z) of the box at hour t is (t, -t), the line between is z = x - 20.
        self.assert_foggy((0, 2, 0, 2, 0, 99, 1, -1), (0, -20), (40, 20), (9, 11))
        self.assert_foggy((0, 2, 0, 2, 0, 99, 1, 0), (0, -20), (40, 20), (18, 22))
        self.assert_foggy((0, 2, 0, 2, 0, 99, 1, 1), (0, -20), (40, 20))
        self.assert_foggy((0, 20, 0, 0, 0, 99, 1, 1), (0, -20), (40, 20), (0, 20))

    def test_a_fast_fog_that_jumps_over_the_line(self):
        self.assert_foggy((0, 1, 0, 1, 0, 9, 10, 0), (5, 0), (5, 1))
        self.assert_foggy((0, 1, 0, 1, 0, 9, 10, 0), (21, 0), (21, 1), (2, 2))
        self.assert_foggy((0, 1, 0, 1, 0, 9, 10, 10), (5, 6), (8, 8))

    def test_only_at_its_first_or_last_hour(self):
        self.assert_foggy((0, 1, 0, 1, -4, 4, 1, 0), (-3, 0), (0, 0), (-4, -4))
        self.assert_foggy((0, 1, 0, 1, -4, 4, 1, 0), (9, 0), (12, 0), (4, 4))
        self.assert_foggy((0, 1, 0, 1, -4, 4, 1, 0), (10, 0), (12, 0))

    def test_two_like_spots(self):
        self.assert_foggy((0, 4, 0, 4, 0, 99, 2, 1), (20, 12), (20, 12), (8, 10))
        self.assert_foggy((0, 4, 0, 4, 0, 99, 2, 1), (20, 2), (20, 2))
        self.assert_foggy((0, 0, 0, 0, 0, 99, 2, 1), (20, 10), (20, 10), (10, 10))

    def test_hours_and_numbers_of_fifty_figures(self):
        self.assert_foggy((0, 1, 0, 1, FAR, 3 * FAR, 1, 0), (FAR, 0), (FAR, 9), (2 * FAR - 1, 2 * FAR))
        self.assert_foggy((0, 0, 0, 0, -FAR, FAR, 1, -1), (-9, -FAR), (FAR, -FAR), (0, 0))
        self.assert_foggy((0, 0, -FAR, FAR, -FAR, FAR, 1, 0), (1, 0), (2 * FAR, 0), (1 - FAR, FAR))
        self.assert_foggy((-FAR, FAR, 5, 6, FAR - 3, FAR, FAR, -FAR), (FAR - 1, 5), (FAR + 1, 5), (FAR - 3, FAR - 3))

    def test_ends_of_long_spans_by_their_boxes(self):
        fog = (-7 * FAR, -6 * FAR, 2, FAR // 3, -FAR, 9 * FAR, 3, 1)
        spots = ((-2 * FAR, FAR // 5), (FAR, 4 * FAR))
        answer = foggy(fog, *spots)
        self.assertEqual(len(answer), 1)
        low, high = answer[0]
        self.assertTrue(-FAR < low < high < 9 * FAR)
        for hour, hides in ((low - 1, False), (low, True), ((low + high) // 2, True), (high, True), (high + 1, False)):
            self.assertIs(touches(box_at(fog, hour), *spots), hides)

    def test_small_fogs_hour_by_hour(self):
        lines = (
            ((-4, 0), (6, 5)), ((0, 6), (5, -6)), ((-3, 1), (7, 1)), ((2, -5), (2, 5)), ((1, 2), (1, 2)), ((3, 3), (4, 4)),
            ((-6, -6), (6, 6)), ((0, -2), (9, 0)))
        boxes = ((0, 0, 0, 0), (-1, 1, 2, 3), (-5, -3, -4, 0), (2, 6, 0, 1), (-9, -9, -2, 7))
        for box, drift, rise in product(boxes, range(-3, 4), range(-3, 4)):
            for first, last in ((-2, -2), (3, 12)):
                fog = box + (first, last, drift, rise)
                for one, other in lines:
                    hours = hour_by_hour(fog, one, other)
                    if hours:
                        self.assertEqual(hours, list(range(hours[0], hours[-1] + 1)))
                        self.assert_foggy(fog, one, other, (hours[0], hours[-1]))
                    else:
                        self.assert_foggy(fog, one, other)

    def test_agrees_with_box_at_and_meets(self):
        fog = (-8, -5, 9, 12, 100, 130, 1, -1)
        one, other = (-3, -4), (9, 6)
        answer = foggy(fog, one, other)
        for hour in range(95, 136):
            box = box_at(fog, hour)
            hides = box is not None and meets(box, one, other)
            self.assertIs(any(low <= hour <= high for low, high in answer), hides)


class FoggyAllTest(unittest.TestCase):
    ONE, OTHER = (0, 2), (9, 2)

    def still(self, first, last):
        return (2, 4, 1, 3, first, last, 0, 0)

    def assert_all(self, fogs, *hours):
        answer = foggy_all(fogs, self.ONE, self.OTHER)
        self.assertEqual(answer, hours)
        self.assertIs(type(answer), tuple)
        self.assertEqual(foggy_all(fogs[::-1], self.OTHER, self.ONE), hours)

    def test_of_none_and_of_one(self):
        self.assert_all([])
        self.assert_all([self.still(5, 9)], (5, 9))
        self.assert_all([(2, 4, 3, 3, 5, 9, 0, 0)])

    def test_of_several(self):
        self.assert_all([self.still(5, 9), self.still(8, 12)], (5, 12))
        self.assert_all([self.still(5, 9), self.still(9, 12)], (5, 12))
        self.assert_all([self.still(5, 9), self.still(10, 12)], (5, 12))
        self.assert_all([self.still(5, 9), self.still(11, 12)], (5, 9), (11, 12))
        self.assert_all([self.still(5, 9), self.still(6, 7)], (5, 9))
        self.assert_all([self.still(5, 9), self.still(5, 9)], (5, 9))
        self.assert_all([self.still(20, 29), self.still(-5, -1), (2, 4, 3, 3, 0, 19, 0, 0)], (-5, -1), (20, 29))
        self.assert_all([self.still(k * 3, k * 3 + k % 2) for k in range(3)], (0, 0), (3, 4), (6, 6))

    def test_that_drift(self):
        self.assert_all([(-3, -2, 0, 9, 0, 9, 1, 0), (30, 30, 0, 9, 0, FAR, -1, 0)], (2, 9), (21, 30))

    def test_the_list_is_neither_changed_nor_kept(self):
        fogs = [self.still(11, 12), self.still(5, 9)]
        answer = foggy_all(fogs, self.ONE, self.OTHER)
        self.assertEqual(fogs, [self.still(11, 12), self.still(5, 9)])
        fogs.clear()
        self.assertEqual(answer, ((5, 9), (11, 12)))

    def test_asked_twice(self):
        fogs = [self.still(11, 12), self.still(5, 9)]
        for turn in range(2):
            self.assert_all(fogs, (5, 9), (11, 12))
            self.assertEqual(box_at(fogs[0], 11), (2, 4, 1, 3))
            self.assertEqual(foggy(fogs[1], self.ONE, self.OTHER), ((5, 9),))


if __name__ == "__main__":
    unittest.main()
