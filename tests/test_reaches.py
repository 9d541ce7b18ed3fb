"""[7.1] and beaconvale.reaches."""

import random
import unittest
from itertools import product

from beaconvale.ground import Ground
from beaconvale.reaches import behind, earlier, hour_at, is_reach, reach_of, staying, turned, unlike_at
from vales import FAR, slow_reach, spans_of


def climbing(length, start, steps=(0, 1, 2)):
    """Every row of so many hours, the first one told, each as many above the one ahead as one of the steps."""
    for rises in product(steps, repeat=length - 1):
        row = [start]
        for rise in rises:
            row.append(row[-1] + rise)
        yield row


def rows_up_to(length, starts, steps=(0, 1, 2)):
    yield []
    for size in range(1, length + 1):
        for start in starts:
            yield from climbing(size, start, steps)


def some_row(rng, length, start):
    row = []
    for k in range(length):
        start += rng.choice((0, 0, 1, 1, 1, 2, 4))
        row.append(start)
    return row


def led(reach):
    """Each hour that a reach leads, by its words, and where."""
    return {hour: to + step * (hour - low) for low, high, to, step in reach for hour in range(low, high + 1)}


def row_of(leads):
    """The reach of a dict from hours that follow one another to hours."""
    if not leads:
        return ()
    return slow_reach(min(leads), [leads[hour] for hour in range(min(leads), max(leads) + 1)])


def at(reach, hour):
    for low, high, to, step in reach:
        if low <= hour <= high:
            return to + step * (hour - low)
    return None


def writings(low, row):
    """Every tuple of pieces that leads hours from low on to a row of hours, whether each piece is as long as can be or not."""
    if not row:
        return [()]
    found = []
    for size in range(1, len(row) + 1):
        for step in (0, 1) if size > 1 else (0,):
            if all(row[k] == row[0] + step * k for k in range(size)):
                piece = (low, low + size - 1, row[0], step)
                found.extend((piece,) + rest for rest in writings(low + size, row[size:]))
    return found


def long_reach(rng, first, to, count):
    """A reach with pieces so long that none can go through their hours one by one."""
    pieces = []
    for k in range(count):
        size = rng.choice((1, 2, FAR // 3, FAR))
        step = rng.choice((0, 1)) if size > 1 else 0
        pieces.append((first, first + size - 1, to, step))
        first += size
        end = to + step * (size - 1)
        drawn_on = (end, end + 1) if size == 1 else (end + step,)
        to = rng.choice([other for other in (end, end + 1, end + 2, end + FAR // 7, end + FAR) if other not in drawn_on])
    return tuple(pieces)


class ReachCase(unittest.TestCase):
    def assert_told(self, answer, expected, given=None):
        self.assertEqual(answer, expected, given)
        self.assertIs(type(answer), tuple)
        for piece in answer:
            self.assertIs(type(piece), tuple)
            self.assertEqual([type(number) for number in piece], [int] * 4)
        self.assertIs(is_reach(answer), True, answer)


class IsReachTest(unittest.TestCase):
    def assert_none(self, *values):
        for value in values:
            self.assertIs(is_reach(value), False, value)

    def assert_reaches(self, *values):
        for value in values:
            self.assertIs(is_reach(value), True, value)

    def test_reaches(self):
        self.assert_reaches(
            (), ((0, 0, 0, 0),), ((5, 5, -9, 0),), ((0, 3, 7, 0),), ((0, 3, 7, 1),), ((-3, -1, -9, 1),),
            ((0, 3, 7, 0), (4, 6, 8, 0)), ((0, 3, 7, 0), (4, 6, 8, 1)), ((0, 3, 7, 1), (4, 6, 10, 0)),
            ((0, 3, 7, 1), (4, 6, 10, 1)), ((0, 3, 7, 1), (4, 4, 12, 0)), ((0, 0, 7, 0), (1, 1, 9, 0)),
            ((0, 0, 7, 0), (1, 1, 9, 0), (2, 2, 11, 0)), ((0, 0, 7, 0), (1, 5, 9, 1), (6, 7, 20, 0)),
            ((-FAR, FAR, -FAR, 1),), ((-FAR, FAR, 0, 0), (FAR + 1, FAR + 1, 1, 0)))

    def test_a_piece_that_could_be_drawn_on(self):
        self.assert_none(
            ((0, 3, 7, 0), (4, 6, 7, 0)), ((0, 3, 7, 0), (4, 6, 7, 1)), ((0, 3, 7, 0), (4, 4, 7, 0)),
            ((0, 3, 7, 1), (4, 6, 11, 0)), ((0, 3, 7, 1), (4, 6, 11, 1)), ((0, 3, 7, 1), (4, 4, 11, 0)),
            ((0, 0, 7, 0), (1, 3, 7, 0)), ((0, 0, 7, 0), (1, 3, 7, 1)), ((0, 0, 7, 0), (1, 3, 8, 0)),
            ((0, 0, 7, 0), (1, 3, 8, 1)), ((0, 0, 7, 0), (1, 1, 7, 0)), ((0, 0, 7, 0), (1, 1, 8, 0)),
            ((0, 3, 7, 0), (4, 4, 9, 0), (5, 5, 10, 0)), ((0, 3, 7, 0), (4, 6, 9, 1), (7, 9, 12, 0)),
            ((0, FAR, 0, 1), (FAR + 1, 2 * FAR, FAR + 1, 0)))

    def test_a_gap_or_an_overlap_between_pieces(self):
        self.assert_none(
            ((0, 3, 7, 0), (5, 6, 9, 0)), ((0, 3, 7, 0), (3, 6, 9, 0)), ((0, 3, 7, 0), (0, 3, 7, 0)),
            ((4, 6, 9, 0), (0, 3, 7, 0)), ((0, 3, 7, 0), (2, 6, 9, 0)), ((0, 0, 1, 0), (2, 2, 5, 0)),
            ((0, 3, 7, 0), (4, 6, 9, 0), (8, 9, 19, 0)), ((0, 0, 7, 0), (0, 0, 9, 0)))

    def test_an_hour_led_earlier_than_the_one_ahead(self):
        self.assert_none(
            ((0, 3, 7, 0), (4, 6, 6, 0)), ((0, 3, 7, 0), (4, 6, 6, 1)), ((0, 3, 7, 1), (4, 6, 9, 0)),
            ((0, 3, 7, 1), (4, 6, 7, 1)), ((0, 0, 7, 0), (1, 1, 6, 0)), ((0, 3, 7, 0), (4, 4, -7, 0)),
            ((0, 3, 7, 0), (4, 6, 9, 1), (7, 9, 10, 0)))
        self.assert_reaches(((0, 3, 7, 1), (4, 6, 10, 0)))

    def test_one_hour_with_step_1(self):
        self.assert_none(((0, 0, 7, 1),), ((0, 3, 7, 1), (4, 4, 12, 1)), ((0, 0, 7, 1), (1, 1, 9, 0)))

    def test_other_steps(self):
        self.assert_none(
            ((0, 3, 7, 2),), ((0, 3, 7, -1),), ((0, 0, 7, 2),), ((0, 0, 7, -1),), ((0, 3, 7, 10),),
            ((0, 3, 7, 0), (4, 6, 9, 2)))

    def test_a_piece_that_holds_no_hour(self):
        self.assert_none(
            ((1, 0, 7, 0),), ((1, 0, 7, 1),), ((4, 0, 7, 0),), ((0, 3, 7, 0), (4, 3, 9, 0)),
            ((0, -1, 7, 0), (0, 0, 9, 0)), ((0, 3, 7, 0), (4, 3, 9, 0), (4, 5, 11, 0)))

    def test_pieces_of_another_length(self):
        self.assert_none(
            ((),), ((0, 3, 7),), ((0, 3, 7, 0, 0),), ((0, 3, 7, 0), (4, 6, 9)), ((0, 3, 7, 0), ()), (0, 3, 7, 0), (0,))

    def test_a_list_for_a_tuple(self):
        self.assert_none([], [(0, 3, 7, 0)], ([0, 3, 7, 0],), [[0, 3, 7, 0]], ((0, 3, 7, 0), [4, 6, 9, 0]))

    def test_true_and_false_for_numbers(self):
        self.assert_none(
            ((False, 3, 7, 0),), ((0, True, 7, 0),), ((0, 3, True, 0),), ((0, 3, False, 0),), ((0, 3, 7, False),),
            ((0, 3, 7, True),), ((0, 0, 7, False),), ((0, 3, 7, 0), (4, 6, 9, True)), ((True, True, True, False),))

    def test_values_of_other_kinds(self):
        self.assert_none(
            None, True, False, 0, 7, FAR, "", "0370", {}, {(0, 3, 7, 0): 1}, set(), frozenset(), range(4), b"", (None,),
            ("0370",), ((0, 3, 7, "0"),), ((0, 3, 7, None),), (("0", 3, 7, 0),), ((0, 3, (7,), 0),), ((0, [3], 7, 0),),
            (range(4),),
            ((0, 3, 7, 0), None), ((0, 3, 7, 0), "4690"), (0, 3), Ground([(0, 0), (1, 1)]), is_reach, tuple,
            (((0, 3, 7, 0),),), ({0: 0, 3: 3, 7: 7, 1: 1},))

    def test_just_one_writing_of_a_row(self):
        for row in rows_up_to(5, (3,)):
            found = [writing for writing in writings(2, row) if is_reach(writing)]
            self.assertEqual(found, [slow_reach(2, row)])

    def test_what_is_asked_is_not_changed(self):
        value = [[0, 3, 7, 0]]
        is_reach(value)
        self.assertEqual(value, [[0, 3, 7, 0]])


class ReachOfTest(ReachCase):
    def assert_reach_of(self, spans, delay, first, *pieces):
        self.assert_told(reach_of(spans, delay, first), pieces, (spans, delay, first))

    def test_begin_before_at_and_behind_the_first_hour(self):
        self.assert_reach_of(((0, 9),), 2, 4, (4, 9, 6, 1))
        self.assert_reach_of(((0, 9),), 2, 0, (0, 9, 2, 1))
        self.assert_reach_of(((4, 9),), 2, 0, (0, 4, 6, 0), (5, 9, 7, 1))
        self.assert_reach_of(((4, 9),), 2, 3, (3, 4, 6, 0), (5, 9, 7, 1))
        self.assert_reach_of(((4, 5),), 2, 3, (3, 4, 6, 0), (5, 5, 7, 0))
        self.assert_reach_of(((4, 4),), 2, 0, (0, 4, 6, 0))
        self.assert_reach_of(((4, 4),), 2, 4, (4, 4, 6, 0))
        self.assert_reach_of(((0, 4),), 2, 4, (4, 4, 6, 0))

    def test_holes(self):
        self.assert_reach_of(((0, 3), (6, 9)), 0, 0, (0, 3, 0, 1), (4, 6, 6, 0), (7, 9, 7, 1))
        self.assert_reach_of(((0, 3), (5, 9)), 0, 0, (0, 3, 0, 1), (4, 5, 5, 0), (6, 9, 6, 1))
        self.assert_reach_of(((0, 0), (2, 2), (4, 4)), 5, 0, (0, 0, 5, 0), (1, 2, 7, 0), (3, 4, 9, 0))
        self.assert_reach_of(((0, 1), (4, 4), (9, 9)), 1, 1, (1, 1, 2, 0), (2, 4, 5, 0), (5, 9, 10, 0))
        self.assert_reach_of(((-9, -5), (-2, 3), (7, 8)), 1, -3, (-3, -2, -1, 0), (-1, 3, 0, 1), (4, 7, 8, 0), (8, 8, 9, 0))

    def test_spans_that_are_past(self):
        self.assert_reach_of(((0, 3), (6, 9)), 0, 5, (5, 6, 6, 0), (7, 9, 7, 1))
        self.assert_reach_of(((0, 3), (6, 9)), 0, 9, (9, 9, 9, 0))
        self.assert_reach_of(((0, 3), (6, 9)), 0, 10)
        self.assert_reach_of(((0, 3),), 0, 4)
        self.assert_reach_of(((0, 3),), 7, FAR)

    def test_no_spans(self):
        self.assert_reach_of((), 0, 0)
        self.assert_reach_of((), 5, -3)

    def test_great_hours(self):
        self.assert_reach_of(((-FAR, -1), (1, FAR)), FAR, -FAR, (-FAR, -1, 0, 1), (0, 1, FAR + 1, 0), (2, FAR, FAR + 2, 1))
        self.assert_reach_of(((FAR, FAR),), 0, -FAR, (-FAR, FAR, FAR, 0))

    def test_all_small_ones(self):
        for held in product((False, True), repeat=7):
            hours = [hour for hour in range(-2, 5) if held[hour + 2]]
            for first in range(-4, 7):
                for delay in (0, 1, 3):
                    row = []
                    for hour in range(first, 6):
                        if any(other >= hour for other in hours):
                            row.append(min(other for other in hours if other >= hour) + delay)
                    self.assert_told(reach_of(spans_of(hours), delay, first), slow_reach(first, row), (hours, delay, first))


class StayingTest(ReachCase):
    def test_written_out(self):
        rows = (
            (0, 5, ((0, 5, 0, 1),)), (-3, -2, ((-3, -2, -3, 1),)), (4, 4, ((4, 4, 4, 0),)), (0, 0, ((0, 0, 0, 0),)),
            (5, 4, ()), (5, -5, ()), (FAR, -FAR, ()), (-FAR, FAR, ((-FAR, FAR, -FAR, 1),)), (FAR, FAR, ((FAR, FAR, FAR, 0),)))
        for first, last, answer in rows:
            self.assert_told(staying(first, last), answer, (first, last))


class HourAtTest(unittest.TestCase):
    def test_before_at_the_ends_within_and_behind(self):
        reach = ((2, 4, 9, 0), (5, 8, 10, 1), (9, 9, 20, 0), (10, 11, 22, 1))
        answers = {2: 9, 3: 9, 4: 9, 5: 10, 6: 11, 7: 12, 8: 13, 9: 20, 10: 22, 11: 23}
        for hour in range(-3, 15):
            self.assertEqual(hour_at(reach, hour), answers.get(hour), hour)
        for hour in (-FAR, FAR):
            self.assertIsNone(hour_at(reach, hour))

    def test_nought(self):
        self.assertEqual(hour_at(((-1, 1, 0, 0),), 0), 0)
        self.assertEqual(hour_at(((-1, 1, -1, 1),), 0), 0)
        self.assertIsNone(hour_at(((1, 2, 0, 0),), 0))

    def test_of_the_empty_one(self):
        for hour in (0, -1, FAR):
            self.assertIsNone(hour_at((), hour))

    def test_great_hours(self):
        reach = ((-FAR, -1, -FAR, 1), (0, FAR, FAR, 1))
        for hour, answer in ((-FAR, -FAR), (-1, -1), (0, FAR), (7, FAR + 7), (FAR, 2 * FAR), (FAR + 1, None), (-FAR - 1, None)):
            self.assertEqual(hour_at(reach, hour), answer)


class EarlierTest(ReachCase):
    def assert_earlier(self, one, other, *pieces):
        self.assert_told(earlier(one, other), pieces, (one, other))
        self.assert_told(earlier(other, one), pieces, (other, one))

    def test_one_of_them_all_along(self):
        self.assert_earlier(((0, 9, 5, 0),), ((0, 9, 6, 0),), (0, 9, 5, 0))
        self.assert_earlier(((0, 9, 5, 1),), ((0, 9, 6, 1),), (0, 9, 5, 1))
        self.assert_earlier(((0, 9, 5, 0),), ((0, 9, 5, 1),), (0, 9, 5, 0))

    def test_they_cross(self):
        self.assert_earlier(((0, 9, 5, 0),), ((0, 9, 1, 1),), (0, 4, 1, 1), (5, 9, 5, 0))
        self.assert_earlier(((0, 9, 5, 0),), ((0, 9, 4, 1),), (0, 1, 4, 1), (2, 9, 5, 0))
        self.assert_earlier(((0, 9, 5, 0),), ((0, 9, -4, 1),), (0, 9, -4, 1))
        self.assert_earlier(((0, 9, 5, 0),), ((0, 9, -9, 1),), (0, 9, -9, 1))

    def test_one_ends_ahead_of_the_other(self):
        self.assert_earlier(((0, 3, 5, 0),), ((0, 9, 6, 0),), (0, 3, 5, 0), (4, 9, 6, 0))
        self.assert_earlier(((0, 3, 5, 0),), ((0, 9, 2, 1),), (0, 9, 2, 1))
        self.assert_earlier(((0, 3, 5, 0),), ((0, 9, 3, 1),), (0, 2, 3, 1), (3, 3, 5, 0), (4, 9, 7, 1))
        self.assert_earlier(((0, 3, 8, 1),), ((0, 9, 6, 0),), (0, 9, 6, 0))
        self.assert_earlier(((0, 0, 5, 0),), ((0, 2, 7, 1), (3, 4, 20, 0)), (0, 0, 5, 0), (1, 2, 8, 1), (3, 4, 20, 0))
        self.assert_earlier(((0, 0, 5, 0),), ((0, 2, 5, 1),), (0, 2, 5, 1))

    def test_with_the_empty_one(self):
        reach = ((0, 3, 5, 0), (4, 4, 9, 0))
        self.assert_earlier(reach, (), *reach)
        self.assert_earlier((), ())
        self.assert_earlier(reach, reach, *reach)

    def test_great_hours(self):
        self.assert_earlier(((-FAR, FAR, 0, 0),), ((-FAR, FAR, -FAR, 1),), (-FAR, 0, -FAR, 1), (1, FAR, 0, 0))
        self.assert_earlier(
            ((-FAR, 0, 3, 0), (1, FAR, FAR, 1)), ((-FAR, 2 * FAR, -7, 1),),
            (-FAR, 10 - FAR, -7, 1), (11 - FAR, 0, 3, 0), (1, 2 * FAR, FAR - 6, 1))

    def test_all_small_ones_hour_by_hour(self):
        rows = list(rows_up_to(4, (4, 5, 7)))
        for one, other in product(rows, repeat=2):
            longer = max(len(one), len(other))
            row = [min(lead[k] for lead in (one, other) if k < len(lead)) for k in range(longer)]
            self.assert_told(earlier(slow_reach(3, one), slow_reach(3, other)), slow_reach(3, row), (one, other))

    def test_longer_ones_hour_by_hour(self):
        rng = random.Random(71)
        for turn in range(400):
            one, other = (some_row(rng, rng.randint(0, 14), rng.randint(-3, 6)) for k in range(2))
            row = [min(lead[k] for lead in (one, other) if k < len(lead)) for k in range(max(len(one), len(other)))]
            self.assert_told(earlier(slow_reach(-2, one), slow_reach(-2, other)), slow_reach(-2, row), (one, other))

    def test_long_ones(self):
        rng = random.Random(72)
        for turn in range(100):
            one, other = (long_reach(rng, -FAR, rng.choice((0, 7, FAR)), rng.randint(1, 12)) for k in range(2))
            answer = earlier(one, other)
            self.assertIs(is_reach(answer), True, (one, other))
            for low, high, to, step in one + other + answer:
                for hour in (low - 1, low, low + 1, (low + high) // 2, high - 1, high, high + 1):
                    leads = [lead for lead in (at(one, hour), at(other, hour)) if lead is not None]
                    self.assertEqual(at(answer, hour), min(leads, default=None))


class BehindTest(ReachCase):
    def assert_behind(self, one, other, *pieces):
        self.assert_told(behind(one, other), pieces, (one, other))

    def test_written_out(self):
        self.assert_behind(((0, 5, 2, 1),), ((0, 9, 4, 1),), (0, 5, 6, 1))
        self.assert_behind(((0, 5, 2, 1),), ((0, 4, 4, 1), (5, 9, 20, 0)), (0, 2, 6, 1), (3, 5, 20, 0))
        self.assert_behind(((0, 5, 2, 0),), ((0, 9, 4, 1),), (0, 5, 6, 0))
        self.assert_behind(((0, 2, 2, 1), (3, 9, 8, 0)), ((0, 5, 5, 0), (6, 8, 9, 1)), (0, 2, 5, 0), (3, 9, 11, 0))

    def test_not_led_where_either_does_not(self):
        self.assert_behind(((0, 5, 2, 1),), ((0, 4, 4, 1),), (0, 2, 6, 1))
        self.assert_behind(((0, 5, 2, 1),), ((0, 2, 4, 1),), (0, 0, 6, 0))
        self.assert_behind(((0, 5, 2, 1),), ((0, 1, 4, 1),))
        self.assert_behind(((0, 5, 2, 0), (6, 8, 20, 0)), ((0, 9, 4, 1),), (0, 5, 6, 0))
        self.assert_behind(((0, 5, 20, 0),), ((0, 9, 4, 1),))

    def test_hours_that_come_to_lie_on_one_line(self):
        self.assert_behind(((0, 1, 1, 0), (2, 3, 3, 0)), ((0, 9, 5, 0),), (0, 3, 5, 0))
        self.assert_behind(((0, 0, 1, 0), (1, 1, 3, 0)), ((0, 1, 4, 1), (2, 3, 6, 0)), (0, 1, 5, 1))
        self.assert_behind(((0, 0, 1, 0), (1, 3, 3, 1)), ((0, 2, 7, 0), (3, 9, 8, 0)), (0, 1, 7, 1), (2, 3, 8, 0))

    def test_with_the_empty_one(self):
        self.assert_behind((), ((0, 9, 4, 1),))
        self.assert_behind(((0, 9, 4, 1),), ())
        self.assert_behind((), ())

    def test_the_other_begins_at_another_hour(self):
        self.assert_behind(((0, 5, 12, 1),), ((10, 14, 30, 0), (15, 19, 40, 1)), (0, 2, 30, 0), (3, 5, 40, 1))
        self.assert_behind(((0, 5, 10, 1),), ((10, 14, 30, 0),), (0, 4, 30, 0))

    def test_great_hours(self):
        self.assert_behind(((-FAR, FAR, 0, 1),), ((0, 5 * FAR, FAR, 1),), (-FAR, FAR, FAR, 1))
        self.assert_behind(
            ((-FAR, FAR, -FAR, 1),), ((-FAR, 0, 7, 0), (1, FAR - 1, FAR, 1)), (-FAR, 0, 7, 0), (1, FAR - 1, FAR, 1))

    def test_all_small_ones_hour_by_hour(self):
        ones = list(rows_up_to(4, (2, 3, 5)))
        others = list(rows_up_to(5, (6,), (0, 1, 3)))
        for one, other in product(ones, others):
            leads = dict(enumerate(other, start=2))
            row = [leads[hour] for hour in one if hour in leads]
            self.assert_told(behind(slow_reach(-3, one), slow_reach(2, other)), slow_reach(-3, row), (one, other))

    def test_longer_ones_hour_by_hour(self):
        rng = random.Random(73)
        for turn in range(400):
            one = some_row(rng, rng.randint(0, 14), rng.randint(0, 6))
            other = some_row(rng, rng.randint(0, 30), rng.randint(-3, 6))
            leads = dict(enumerate(other))
            row = [leads[hour] for hour in one if hour in leads]
            self.assert_told(behind(slow_reach(-2, one), slow_reach(0, other)), slow_reach(-2, row), (one, other))

    def test_long_ones(self):
        rng = random.Random(74)
        for turn in range(100):
            one = long_reach(rng, -FAR, rng.choice((0, 7, FAR)), rng.randint(1, 12))
            other = long_reach(rng, rng.choice((-FAR, -3, 0)), rng.choice((0, 7, FAR)), rng.randint(1, 20))
            answer = behind(one, other)
            self.assertIs(is_reach(answer), True, (one, other))
            for low, high, to, step in one + answer:
                for hour in (low - 1, low, low + 1, (low + high) // 2, high - 1, high, high + 1):
                    middle = at(one, hour)
                    self.assertEqual(at(answer, hour), None if middle is None else at(other, middle))


class TurnedTest(ReachCase):
    def assert_turned(self, reach, last, *pieces):
        self.assert_told(turned(reach, last), pieces, (reach, last))

    def test_written_out(self):
        self.assert_turned(((0, 5, 2, 1),), 7, (2, 7, 0, 1))
        self.assert_turned(((0, 5, 2, 1),), 9, (2, 7, 0, 1), (8, 9, 5, 0))
        self.assert_turned(((0, 5, 2, 1),), 4, (2, 4, 0, 1))
        self.assert_turned(((0, 5, 2, 0),), 9, (2, 9, 5, 0))
        self.assert_turned(((0, 5, 2, 0),), 2, (2, 2, 5, 0))
        self.assert_turned(((0, 5, 2, 0), (6, 9, 7, 1)), 20, (2, 6, 5, 0), (7, 10, 6, 1), (11, 20, 9, 0))
        self.assert_turned(((0, 5, 2, 1), (6, 9, 7, 0)), 8, (2, 6, 0, 1), (7, 8, 9, 0))
        self.assert_turned(((0, 0, 2, 0), (1, 1, 5, 0)), 5, (2, 4, 0, 0), (5, 5, 1, 0))

    def test_last_before_at_and_behind(self):
        reach = ((0, 5, 2, 0), (6, 9, 7, 1))
        self.assert_turned(reach, 1)
        self.assert_turned(reach, -FAR)
        self.assert_turned(reach, 2, (2, 2, 5, 0))
        self.assert_turned(reach, 6, (2, 6, 5, 0))
        self.assert_turned(reach, 7, (2, 6, 5, 0), (7, 7, 6, 0))

    def test_of_the_empty_one(self):
        for last in (0, -5, FAR):
            self.assert_turned((), last)

    def test_great_hours(self):
        self.assert_turned(((-FAR, FAR, 0, 1),), FAR, (0, FAR, -FAR, 1))
        self.assert_turned(((-FAR, FAR, 0, 1),), 3 * FAR, (0, 2 * FAR, -FAR, 1), (2 * FAR + 1, 3 * FAR, FAR, 0))
        self.assert_turned(((-FAR, 0, FAR, 0),), 9 * FAR, (FAR, 9 * FAR, 0, 0))

    def slow_turned(self, first, row, last):
        if not row or last < row[0]:
            return ()
        hours = range(row[0], last + 1)
        return slow_reach(row[0], [first + max(k for k in range(len(row)) if row[k] <= hour) for hour in hours])

    def test_all_small_ones_hour_by_hour(self):
        for row in rows_up_to(5, (4,), (0, 1, 2, 3)):
            for last in range(2, 20):
                self.assert_told(turned(slow_reach(-1, row), last), self.slow_turned(-1, row, last), (row, last))

    def test_longer_ones_hour_by_hour(self):
        rng = random.Random(75)
        for turn in range(300):
            row = some_row(rng, rng.randint(0, 16), rng.randint(-6, 6))
            last = rng.randint(-8, 30)
            self.assert_told(turned(slow_reach(2, row), last), self.slow_turned(2, row, last), (row, last))

    def test_long_ones(self):
        rng = random.Random(76)
        for turn in range(100):
            reach = long_reach(rng, -FAR, rng.choice((0, 7, FAR)), rng.randint(1, 12))
            last = reach[-1][2] + rng.choice((-FAR, 0, 1, FAR, 9 * FAR))
            answer = turned(reach, last)
            self.assertIs(is_reach(answer), True, reach)
            if last < reach[0][2]:
                self.assertEqual(answer, ())
                continue
            self.assertEqual((answer[0][0], answer[-1][1]), (reach[0][2], last))
            for low, high, to, step in answer:
                for hour in (low, min(low + 1, high), (low + high) // 2, high):
                    best = at(answer, hour)
                    self.assertLessEqual(at(reach, best), hour)
                    self.assertTrue(at(reach, best + 1) is None or at(reach, best + 1) > hour)


class UnlikeAtTest(unittest.TestCase):
    def assert_unlike(self, one, other, answer):
        self.assertEqual(unlike_at(one, other), answer, (one, other))
        self.assertEqual(unlike_at(other, one), answer, (other, one))

    def test_the_same(self):
        for reach in ((), ((0, 0, 0, 0),), ((0, 3, 7, 0), (4, 6, 9, 1)), ((-FAR, FAR, 0, 1),)):
            self.assert_unlike(reach, reach, None)

    def test_at_the_first_hour(self):
        self.assert_unlike(((0, 3, 7, 0),), ((0, 3, 8, 0),), 0)
        self.assert_unlike(((0, 3, 7, 0),), ((0, 3, 8, 1),), 0)
        self.assert_unlike(((5, 5, 7, 0),), ((5, 9, 8, 0),), 5)

    def test_in_the_middle(self):
        self.assert_unlike(((0, 3, 7, 0),), ((0, 3, 7, 1),), 1)
        self.assert_unlike(((0, 0, 7, 0), (1, 1, 9, 0)), ((0, 1, 7, 1),), 1)
        self.assert_unlike(((0, 0, 7, 0), (1, 1, 9, 0)), ((0, 1, 7, 0),), 1)
        self.assert_unlike(((0, 3, 7, 0), (4, 6, 9, 0)), ((0, 3, 7, 0), (4, 6, 10, 0)), 4)
        self.assert_unlike(((0, 3, 7, 0), (4, 6, 9, 0)), ((0, 3, 7, 0), (4, 6, 9, 1)), 5)
        self.assert_unlike(((0, 3, 7, 0), (4, 6, 9, 0)), ((0, 4, 7, 0), (5, 6, 9, 0)), 4)
        self.assert_unlike(((0, 3, 7, 1), (4, 6, 19, 0)), ((0, 4, 7, 1), (5, 6, 19, 0)), 4)

    def test_in_their_length(self):
        self.assert_unlike(((0, 3, 7, 0),), ((0, 5, 7, 0),), 4)
        self.assert_unlike(((0, 3, 7, 1),), ((0, 5, 7, 1),), 4)
        self.assert_unlike(((0, 3, 7, 1),), ((0, 3, 7, 1), (4, 4, 99, 0)), 4)
        self.assert_unlike(((0, 0, 7, 0),), ((0, 5, 7, 1),), 1)

    def test_in_their_first_hours(self):
        self.assert_unlike(((0, 3, 7, 0),), ((1, 3, 7, 0),), 0)
        self.assert_unlike(((-5, -4, 7, 0),), ((1, 3, 7, 0),), -5)
        self.assert_unlike(((0, 3, 7, 1),), ((1, 3, 8, 1),), 0)

    def test_with_the_empty_one(self):
        self.assert_unlike((), ((0, 3, 7, 0),), 0)
        self.assert_unlike((), ((-4, 3, 7, 0), (4, 4, 9, 0)), -4)

    def test_great_hours(self):
        self.assert_unlike(((-FAR, FAR, 0, 1),), ((-FAR, FAR - 1, 0, 1), (FAR, FAR, 3 * FAR, 0)), FAR)
        self.assert_unlike(((-FAR, FAR, 0, 1),), ((-FAR, FAR + 1, 0, 1),), FAR + 1)

    def test_all_small_ones_hour_by_hour(self):
        reaches = [slow_reach(first, row) for first in (0, 2) for row in rows_up_to(4, (4, 5))]
        for one, other in product(reaches, repeat=2):
            first_leads, second_leads = led(one), led(other)
            unlike = [hour for hour in range(-1, 9) if first_leads.get(hour) != second_leads.get(hour)]
            self.assertEqual(unlike_at(one, other), min(unlike, default=None), (one, other))


class AskedAgainTest(ReachCase):
    """[0.2]: the same asked again is told alike."""

    def test_asked_twice(self):
        one, other = ((0, 3, 7, 0), (4, 6, 9, 1)), ((0, 9, 5, 1),)
        for turn in range(2):
            self.assertEqual(earlier(one, other), row_of({0: 5, 1: 6, 2: 7, 3: 7, 4: 9, 5: 10, 6: 11, 7: 12, 8: 13, 9: 14}))
            self.assertEqual(behind(one, other), row_of({0: 12, 1: 12, 2: 12, 3: 12, 4: 14}))
            self.assertEqual(turned(one, 9), row_of({7: 3, 8: 3, 9: 4}))
            self.assertEqual(unlike_at(one, other), 0)
            self.assertEqual(hour_at(one, 5), 10)


if __name__ == "__main__":
    unittest.main()
