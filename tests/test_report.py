"""beaconvale.report."""

import unittest
from itertools import combinations

from beaconvale.errors import BadHour, NoBeacon
from beaconvale.report import report, sight_line
from vales import (
    FAR, fields, refused, row_of_three, slow_earliest, slow_names, slow_table, some_valleys, spans_of, vale, walls, webs)


def slow_line(name, other, hours):
    shown = [str(low) if low == high else str(low) + ".." + str(high) for low, high in spans_of(hours)]
    return name + " " + other + ": " + (", ".join(shown) if shown else "never")


class SightLineTest(unittest.TestCase):
    def assert_line(self, valley, name, other, line):
        self.assertEqual(sight_line(valley, name, other), line)
        self.assertIs(type(sight_line(valley, name, other)), str)

    def test_never(self):
        self.assert_line(row_of_three(), "a", "c", "a c: never")
        self.assert_line(row_of_three(fogs=walls(5, (0, 20))), "b", "a", "b a: never")

    def test_one_hour(self):
        self.assert_line(row_of_three(fogs=walls(5, (0, 6), (8, 20))), "a", "b", "a b: 7")
        self.assert_line(row_of_three(first=0, last=0), "a", "b", "a b: 0")
        self.assert_line(row_of_three(first=-4, last=-4), "a", "b", "a b: -4")

    def test_one_span(self):
        self.assert_line(row_of_three(), "a", "b", "a b: 0..20")
        self.assert_line(row_of_three(first=-7, last=-6), "a", "b", "a b: -7..-6")
        self.assert_line(row_of_three(first=-FAR, last=FAR), "b", "a", f"b a: -{FAR}..{FAR}")

    def test_several(self):
        self.assert_line(row_of_three(fogs=walls(5, (3, 3), (7, 9), (18, 19))), "a", "b", "a b: 0..2, 4..6, 10..17, 20")
        self.assert_line(row_of_three(fogs=walls(5, (1, 1), (3, 20))), "b", "a", "b a: 0, 2")

    def test_with_itself(self):
        self.assert_line(row_of_three(fogs=walls(0, (0, 20)), haze=0), "a", "a", "a a: 0..20")
        self.assert_line(vale([("abcdefgh", 0, 5)], first=3, last=3), "abcdefgh", "abcdefgh", "abcdefgh abcdefgh: 3")

    def test_the_name_asked_first_stands_first(self):
        self.assert_line(vale(), "cedar", "ash", "cedar ash: 0..20")
        self.assert_line(vale(), "ash", "cedar", "ash cedar: 0..20")

    def test_no_beacon(self):
        for name, other in (("x", "a"), ("a", "x"), ("x", "x"), ("", "a")):
            self.assertIs(refused(sight_line, row_of_three(), name, other), NoBeacon)

    def test_small_valleys(self):
        for valley in some_valleys(131, 40) + webs(132, 8):
            for (name, other), hours in slow_table(valley).items():
                self.assert_line(valley, name, other, slow_line(name, other, hours))


class ReportTest(unittest.TestCase):
    def test_written_out(self):
        valley = row_of_three(fogs=walls(5, (2, 6)) + walls(15, (3, 9)), delay=1)
        self.assertEqual(report(valley, "a", 2), [
            "a b: 0..1, 7..20", "a c: never", "b c: 0..2, 10..20", "a lit 2", "b lit 8", "c lit 11"])

    def test_behind_the_last_hour_and_dark(self):
        self.assertEqual(report(row_of_three(delay=9), "a", 12), [
            "a b: 0..20", "a c: never", "b c: 0..20", "a lit 12", "b lit 21", "c dark"])
        self.assertEqual(report(row_of_three(haze=99), "b", 20)[3:], ["a dark", "b lit 20", "c dark"])

    def test_hours_below_nought_and_nought(self):
        self.assertEqual(report(row_of_three(first=-3, last=5, delay=3), "a", -3)[3:], ["a lit -3", "b lit 0", "c lit 3"])

    def test_order(self):
        valley = vale([("z", 20, 5), ("m", 0, 5), ("a", 10, 5)], haze=100, delay=0)
        self.assertEqual(report(valley, "m", 4), [
            "z m: never", "z a: 0..20", "m a: 0..20", "z lit 4", "m lit 4", "a lit 4"])

    def test_one_beacon(self):
        self.assertEqual(report(vale([("a", 0, 5)]), "a", 7), ["a lit 7"])

    def test_hours_of_fifty_figures(self):
        valley = row_of_three(first=-FAR, last=FAR, delay=FAR)
        self.assertEqual(report(valley, "a", 0), [
            f"a b: -{FAR}..{FAR}", "a c: never", f"b c: -{FAR}..{FAR}", "a lit 0", f"b lit {FAR}", f"c lit {2 * FAR}"])

    def test_small_valleys(self):
        for valley in some_valleys(133, 30) + webs(134, 8):
            table = slow_table(valley)
            names = slow_names(valley)
            lines = [slow_line(*pair, table[pair]) for pair in combinations(names, 2)]
            for name in names:
                hour = (valley.first + valley.last) // 2
                lit_hours = slow_earliest(valley, table, name, hour)
                rest = [f"{each} dark" if lit is None else f"{each} lit {lit}" for each, lit in zip(names, lit_hours)]
                self.assertEqual(report(valley, name, hour), lines + rest)

    def test_a_list_of_its_own_each_time(self):
        valley = row_of_three()
        before = fields(valley)
        told = report(valley, "a", 3)
        again = report(valley, "a", 3)
        self.assertIs(type(told), list)
        self.assertIsNot(told, again)
        told.clear()
        self.assertEqual(len(again), 6)
        self.assertEqual(report(valley, "a", 3), again)
        self.assertEqual(fields(valley), before)

    def test_refusals(self):
        for hour in (5, -1, 21, FAR):
            self.assertIs(refused(report, row_of_three(), "x", hour), NoBeacon)
        for hour in (-1, 21, FAR, -FAR):
            self.assertIs(refused(report, row_of_three(), "a", hour), BadHour)
        for hour in (0, 20):
            self.assertIsNone(refused(report, row_of_three(), "a", hour))


if __name__ == "__main__":
    unittest.main()
