"""[0.5] and beaconvale.spans."""

import unittest
from itertools import product

from beaconvale.spans import both, either, first_from, holds, last_to, many, tidy, without

FAR = 10 ** 51 + 9      # 52 figures
HOURS = range(-2, 4)


def hours_of(pairs):
    return {hour for low, high in pairs for hour in range(low, high + 1)}


def spans_of(hours):
    """The spans that hold just these hours, found hour by hour."""
    found = []
    for hour in sorted(hours):
        if found and found[-1][1] == hour - 1:
            found[-1] = (found[-1][0], hour)
        else:
            found.append((hour, hour))
    return tuple(found)


def all_spans():
    for marks in product((False, True), repeat=len(HOURS)):
        yield spans_of([hour for hour, mark in zip(HOURS, marks) if mark])


class SpansCase(unittest.TestCase):
    def assert_told(self, value, answer):
        self.assertEqual(value, answer)
        self.assertIs(type(value), tuple)
        for span in value:
            self.assertIs(type(span), tuple)


class TidyTest(SpansCase):
    def test_written_out(self):
        rows = (
            ([], ()),
            ([(4, 4)], ((4, 4),)),
            ([(5, 9), (1, 2)], ((1, 2), (5, 9))),                   # in any order
            ([(8, 9), (1, 2), (4, 6)], ((1, 2), (4, 6), (8, 9))),
            ([(1, 4), (3, 6)], ((1, 6),)),                          # overlapping
            ([(3, 6), (1, 4)], ((1, 6),)),
            ([(1, 4), (4, 6)], ((1, 6),)),                          # touching
            ([(1, 2), (3, 4)], ((1, 4),)),                          # next to one another
            ([(3, 4), (1, 2)], ((1, 4),)),
            ([(1, 2), (4, 5)], ((1, 2), (4, 5))),                   # an hour between
            ([(1, 2), (1, 2)], ((1, 2),)),                          # twice the same
            ([(1, 9), (3, 4)], ((1, 9),)),                          # within
            ([(1, 9), (3, 4), (10, 10), (12, 13)], ((1, 10), (12, 13))),
            ([(2, 1)], ()),                                         # that hold none
            ([(9, -9), (1, 2), (4, 3)], ((1, 2),)),
            ([(1, 2), (5, 3), (6, 7)], ((1, 2), (6, 7))),
            ([(0, 0), (-1, -1), (1, 1)], ((-1, 1),)),
            ([(-FAR, -1), (0, FAR)], ((-FAR, FAR),)),
            ([(1, FAR), (-FAR, -1)], ((-FAR, -1), (1, FAR))),
        )
        for pairs, answer in rows:
            self.assert_told(tidy(pairs), answer)

    def test_all_small_lists(self):
        pairs = list(product(range(-1, 4), repeat=2))
        for size in range(4):
            for row in product(pairs, repeat=size):
                self.assert_told(tidy(list(row)), spans_of(hours_of(row)))

    def test_the_list_is_neither_changed_nor_kept(self):
        pairs = [(5, 9), (1, 2), (3, 3), (8, 7)]
        answer = tidy(pairs)
        self.assertEqual(pairs, [(5, 9), (1, 2), (3, 3), (8, 7)])
        pairs.clear()
        self.assert_told(answer, ((1, 3), (5, 9)))


class TwoSpansTest(SpansCase):
    def assert_two(self, one, other, in_both, in_either, in_one, in_other):
        for first, second in ((one, other), (other, one)):
            self.assert_told(both(first, second), in_both)
            self.assert_told(either(first, second), in_either)
        self.assert_told(without(one, other), in_one)
        self.assert_told(without(other, one), in_other)

    def test_apart(self):
        self.assert_two(((1, 2),), ((4, 5),), (), ((1, 2), (4, 5)), ((1, 2),), ((4, 5),))
        self.assert_two(
            ((1, 2), (7, 8)), ((4, 5), (10, 10)), (), ((1, 2), (4, 5), (7, 8), (10, 10)),
            ((1, 2), (7, 8)), ((4, 5), (10, 10)))

    def test_next_to_one_another(self):
        self.assert_two(((1, 2),), ((3, 4),), (), ((1, 4),), ((1, 2),), ((3, 4),))
        self.assert_two(((1, 2), (5, 6)), ((3, 4),), (), ((1, 6),), ((1, 2), (5, 6)), ((3, 4),))

    def test_touching(self):
        self.assert_two(((1, 3),), ((3, 4),), ((3, 3),), ((1, 4),), ((1, 2),), ((4, 4),))
        self.assert_two(
            ((1, 3), (6, 8)), ((3, 6),), ((3, 3), (6, 6)), ((1, 8),), ((1, 2), (7, 8)), ((4, 5),))

    def test_overlapping(self):
        self.assert_two(((1, 5),), ((3, 8),), ((3, 5),), ((1, 8),), ((1, 2),), ((6, 8),))

    def test_within(self):
        self.assert_two(((1, 9),), ((3, 4),), ((3, 4),), ((1, 9),), ((1, 2), (5, 9)), ())
        self.assert_two(
            ((1, 9),), ((1, 2), (4, 4), (8, 9)), ((1, 2), (4, 4), (8, 9)), ((1, 9),), ((3, 3), (5, 7)), ())

    def test_the_same_and_empty(self):
        for spans in ((), ((1, 2),), ((1, 2), (4, 4), (6, 9))):
            self.assert_two(spans, spans, spans, spans, (), ())
            self.assert_two(spans, (), (), spans, spans, ())

    def test_great_numbers(self):
        self.assert_two(
            ((-FAR, FAR),), ((0, 0),), ((0, 0),), ((-FAR, FAR),), ((-FAR, -1), (1, FAR)), ())
        self.assert_two(
            ((-FAR, -1), (1, FAR)), ((-FAR, FAR - 1),), ((-FAR, -1), (1, FAR - 1)), ((-FAR, FAR),),
            ((FAR, FAR),), ((0, 0),))

    def test_of_forty_five(self):
        one = tuple((10 * k, 10 * k + 5) for k in range(45))
        other = tuple((10 * k + 4, 10 * k + 7) for k in range(45))
        self.assert_two(
            one, other,
            tuple((10 * k + 4, 10 * k + 5) for k in range(45)), tuple((10 * k, 10 * k + 7) for k in range(45)),
            tuple((10 * k, 10 * k + 3) for k in range(45)), tuple((10 * k + 6, 10 * k + 7) for k in range(45)))

    def test_all_small_ones(self):
        for one, other in product(all_spans(), repeat=2):
            first, second = hours_of(one), hours_of(other)
            self.assert_two(
                one, other, spans_of(first & second), spans_of(first | second),
                spans_of(first - second), spans_of(second - first))


class HoldsTest(unittest.TestCase):
    def test_written_out(self):
        spans = ((-FAR, -3), (0, 0), (2, 5), (7, FAR))
        for hour in (-FAR, 1 - FAR, -4, -3, 0, 2, 3, 5, 7, 8, FAR - 1, FAR):
            self.assertIs(holds(spans, hour), True, hour)
        for hour in (-FAR - 1, -2, -1, 1, 6, FAR + 1, 10 * FAR):
            self.assertIs(holds(spans, hour), False, hour)
        self.assertIs(holds((), 0), False)

    def test_many(self):
        rows = (
            ((), 0), (((4, 4),), 1), (((-1, 1),), 3), (((1, 2), (4, 4), (9, 12)), 7),
            (((0, FAR),), FAR + 1), (((-FAR, FAR),), 2 * FAR + 1), (((-FAR, -1), (1, FAR)), 2 * FAR),
            (((FAR - 1, FAR),), 2),
        )
        for spans, answer in rows:
            self.assertEqual(many(spans), answer)

    def test_all_small_ones(self):
        for spans in all_spans():
            hours = hours_of(spans)
            self.assertEqual(many(spans), len(hours))
            for hour in range(-4, 7):
                self.assertIs(holds(spans, hour), hour in hours)


class FirstAndLastTest(unittest.TestCase):
    def test_first_from(self):
        spans = ((1, 3), (6, 6), (9, FAR))
        rows = (
            (-FAR, 1), (0, 1), (1, 1), (2, 2), (3, 3), (4, 6), (5, 6), (6, 6), (7, 9), (8, 9), (9, 9), (10, 10),
            (FAR - 1, FAR - 1), (FAR, FAR), (FAR + 1, None), (10 * FAR, None),
        )
        for hour, answer in rows:
            self.assertEqual(first_from(spans, hour), answer, hour)
        self.assertIsNone(first_from((), 0))

    def test_last_to(self):
        spans = ((-FAR, -9), (-6, -6), (-3, -1))
        rows = (
            (FAR, -1), (0, -1), (-1, -1), (-2, -2), (-3, -3), (-4, -6), (-5, -6), (-6, -6), (-7, -9), (-8, -9),
            (-9, -9), (-10, -10), (-FAR, -FAR), (-FAR - 1, None), (-10 * FAR, None),
        )
        for hour, answer in rows:
            self.assertEqual(last_to(spans, hour), answer, hour)
        self.assertIsNone(last_to((), 0))

    def test_nought_is_an_hour(self):
        self.assertEqual(first_from(((0, 0),), -1), 0)
        self.assertEqual(last_to(((0, 0),), 1), 0)
        self.assertEqual(first_from(((-1, 1),), 0), 0)
        self.assertEqual(last_to(((-1, 1),), 0), 0)

    def test_all_small_ones(self):
        for spans in all_spans():
            hours = hours_of(spans)
            for hour in range(-4, 7):
                self.assertEqual(first_from(spans, hour), min((h for h in hours if h >= hour), default=None))
                self.assertEqual(last_to(spans, hour), max((h for h in hours if h <= hour), default=None))


class AskedAgainTest(unittest.TestCase):
    """[0.2]: the same asked again is told alike, and nothing handed in is changed."""

    def test_asked_twice(self):
        one, other = ((1, 3), (6, 8)), ((3, 6),)
        for turn in range(2):
            self.assertEqual(both(one, other), ((3, 3), (6, 6)))
            self.assertEqual(either(one, other), ((1, 8),))
            self.assertEqual(without(one, other), ((1, 2), (7, 8)))
            self.assertEqual(first_from(one, 4), 6)
            self.assertEqual(last_to(one, 4), 3)
        self.assertEqual((one, other), (((1, 3), (6, 8)), ((3, 6),)))


if __name__ == "__main__":
    unittest.main()
