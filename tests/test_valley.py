"""[6.1], [6.2] and beaconvale.valley."""

import string
import unittest
from itertools import combinations, product

from beaconvale.errors import BadFog, BadHour, BadName, NoBeacon, OffGround, TooMany, Twice
from beaconvale.ground import Ground
from beaconvale.valley import Valley, company, hidden, is_name, names_of, sight, spot_of, web_at
from vales import (
    FAR, FLAT, ROW, fields, refused, slow_hidden, slow_sees, slow_table, some_valleys, spans_of, vale, wall, walls, webs)

STILL = (2, 4, 1, 3, 5, 9, 0, 0)
HILLS = ((0, 0), (3, 4), (6, 1), (9, 4), (12, 0))


def many(count):
    return [(string.ascii_lowercase[k] * 3, k, 5) for k in range(count)]


class IsNameTest(unittest.TestCase):
    def test_names(self):
        for name in ("a", "z", "m", "az", "ash", "aaaaaaa", "abcdefgh", "stuvwxyz", "zzzzzzzz"):
            self.assertIs(is_name(name), True, name)

    def test_each_small_letter(self):
        for letter in string.ascii_lowercase:
            self.assertIs(is_name(letter), True, letter)
            self.assertIs(is_name("ab" + letter), True, letter)

    def test_none_and_too_many_letters(self):
        for name in ("", "abcdefghi", "zzzzzzzzz", "a" * 10, "a" * 4000):
            self.assertIs(is_name(name), False, name)

    def test_every_other_sign_in_every_place(self):
        signs = [chr(code) for code in range(32, 127) if chr(code) not in string.ascii_lowercase] + ["\n"]
        self.assertEqual(len(signs), 95 - 26 + 1)
        for sign in signs:
            for name in (sign, "a" + sign, sign + "a", "ab" + sign + "cd", "abcdefg" + sign):
                self.assertIs(is_name(name), False, name)

    def test_line_feed_behind_a_name(self):
        self.assertIs(is_name("ash\n"), False)
        self.assertIs(is_name("\nash"), False)
        self.assertIs(is_name("abcdefgh\n"), False)


class MakingTest(unittest.TestCase):
    def assert_refused(self, refusal, **given):
        parts = dict(beacons=ROW, fogs=(), haze=None, first=0, last=20, delay=1, corners=FLAT)
        parts.update(given)
        self.assertIs(refused(lambda: vale(**parts)), refusal, given)

    def test_fields(self):
        valley = vale(ROW, (STILL, wall(3, 4, 5)), 700, -3, 8, 2, HILLS + ((30, 0),))
        self.assertEqual(
            fields(valley), (list(HILLS) + [(30, 0)], list(ROW), [STILL, wall(3, 4, 5)], 700, -3, 8, 2))
        self.assertIsInstance(valley.ground, Ground)
        for each in (valley.beacons, valley.fogs, valley.ground.corners):
            self.assertIs(type(each), list)
        self.assertIsNone(vale().haze)

    def test_how_many_beacons(self):
        for count in (1, 2, 11, 12):
            self.assertEqual(vale(many(count)).beacons, many(count))
        for count in (0, 13, 14, 26):
            self.assert_refused(TooMany, beacons=many(count))

    def test_how_many_fogs(self):
        for count in (0, 1, 11, 12):
            self.assertEqual(vale(fogs=[STILL] * count).fogs, [STILL] * count)
        for count in (13, 14, 45):
            self.assert_refused(TooMany, fogs=[STILL] * count)

    def test_names(self):
        for name in ("", "abcdefghi", "Ash", "a1", "a b", "ash\n", "a-b", " "):
            for place in range(3):
                beacons = list(ROW)
                beacons[place] = (name,) + beacons[place][1:]
                self.assert_refused(BadName, beacons=beacons)
        self.assert_refused(None, beacons=[("abcdefgh", 0, 0), ("a", 0, 0)])

    def test_two_like_names(self):
        for one, other in combinations(range(4), 2):
            beacons = [("a", 0, 1), ("b", 1, 1), ("c", 2, 1), ("d", 3, 1)]
            beacons[other] = (beacons[one][0],) + beacons[other][1:]
            self.assert_refused(Twice, beacons=beacons)
        self.assert_refused(Twice, beacons=[("a", 0, 1), ("a", 0, 1)])

    def test_one_spot_twice_is_no_fault(self):
        self.assert_refused(None, beacons=[("a", 0, 1), ("b", 0, 1), ("c", 0, 1)])

    def test_tops(self):
        for spot in ((0, 0), (3, 4), (12, 0), (6, 9), (1, 2), (5, 2), (0, FAR)):
            self.assert_refused(None, beacons=[("a", 3, 4), ("b",) + spot], corners=HILLS)
        for spot in ((-1, 9), (13, 9), (3, 3), (0, -1), (1, 1), (5, 1), (12, -1), (-FAR, FAR), (6, -FAR)):
            self.assert_refused(OffGround, beacons=[("a", 3, 4), ("b",) + spot], corners=HILLS)
            self.assert_refused(OffGround, beacons=[("b",) + spot, ("a", 3, 4)], corners=HILLS)

    def test_fogs(self):
        bad_fogs = (
            (4, 2, 1, 3, 5, 9, 0, 0), (2, 4, 3, 1, 5, 9, 0, 0), (2, 4, 1, 3, 9, 5, 0, 0), STILL[:7], STILL + (0,), (),
            list(STILL), None, 7, "fog", (True,) * 8, STILL[:6] + (False, 0), STILL[:7] + ("0",))
        for fog in bad_fogs:
            self.assert_refused(BadFog, fogs=[fog])
            self.assert_refused(BadFog, fogs=[STILL, fog])
            self.assert_refused(BadFog, fogs=[fog, STILL])
        self.assert_refused(None, fogs=[STILL, STILL])

    def test_hours(self):
        for first, last in ((0, 0), (-5, -5), (-5, 5), (-FAR, FAR), (FAR, FAR)):
            self.assert_refused(None, first=first, last=last)
        for first, last in ((1, 0), (5, -5), (-4, -5), (FAR, -FAR), (FAR, FAR - 1)):
            self.assert_refused(BadHour, first=first, last=last)

    def test_delay_and_haze(self):
        for number in (0, 1, 100, FAR):
            self.assert_refused(None, delay=number)
            self.assert_refused(None, haze=number)
        for number in (-1, -2, -FAR):
            self.assert_refused(BadHour, delay=number)
            self.assert_refused(BadHour, haze=number)
        self.assert_refused(None, haze=None)

    def test_several_at_once(self):
        # Each fault by itself, then every choice of several of them: the first by the told order is due.
        order = (TooMany, BadName, Twice, OffGround, BadFog, BadHour)
        choices = [chosen for size in range(len(order) + 1) for chosen in combinations(order, size)]
        lates = (dict(first=3, last=2), dict(delay=-1), dict(haze=-1))
        for chosen, late, more in product(choices, lates, ((many(12), []), ([], [STILL] * 12))):
            beacons, fogs = [("a", 0, 1)], [STILL]
            if BadFog in chosen:
                fogs.append(STILL[:7])
            if OffGround in chosen:
                beacons.append(("f", 0, -1))
            if Twice in chosen:
                beacons.append(("a", 2, 1))
            if BadName in chosen:
                beacons.append(("A", 3, 1))
            if TooMany in chosen:
                beacons, fogs = beacons + more[0], fogs + more[1]
            given = late if BadHour in chosen else {}
            self.assert_refused(chosen[0] if chosen else None, beacons=beacons, fogs=fogs, **given)

    def test_no_beacon_ahead_of_the_rest(self):
        self.assert_refused(TooMany, beacons=[], fogs=[None], first=3, last=2)
        self.assert_refused(TooMany, fogs=[None] * 13)

    def test_bad_name_ahead_of_two_like_ones(self):
        self.assert_refused(BadName, beacons=[("a", 0, 1), ("a", 0, 1), ("B", 0, 1)])
        self.assert_refused(BadName, beacons=[("B", 0, 1), ("B", 0, 1)])

    def test_lists_are_its_own(self):
        ground, beacons, fogs = Ground(list(FLAT)), list(ROW), [STILL]
        valley = Valley(ground, beacons, fogs, None, 0, 20, 1)
        other = Valley(ground, beacons, fogs, None, 0, 20, 1)
        before = fields(valley)
        beacons.append(("zeder", 4, 4))
        beacons[0] = ("yew", 1, 1)
        fogs.clear()
        self.assertEqual(fields(valley), before)
        self.assertEqual(fields(other), before)
        self.assertEqual(names_of(valley), ["ash", "birch", "cedar"])
        self.assertEqual(spot_of(valley, "ash"), (0, 5))
        self.assertEqual(sight(valley, "ash", "birch"), ((0, 20),))
        self.assertIsNot(valley.beacons, other.beacons)
        self.assertIsNot(valley.fogs, other.fogs)

    def test_what_is_handed_in_is_not_changed(self):
        ground, beacons, fogs = Ground(list(FLAT)), list(ROW), [STILL]
        Valley(ground, beacons, fogs, 5, 0, 20, 1)
        self.assertEqual((ground.corners, beacons, fogs), (list(FLAT), list(ROW), [STILL]))


class NamesAndSpotsTest(unittest.TestCase):
    def test_in_their_order(self):
        self.assertEqual(names_of(vale()), ["ash", "birch", "cedar"])
        self.assertEqual(names_of(vale([("z", 1, 1), ("a", 9, 9), ("m", -4, 2)])), ["z", "a", "m"])
        self.assertEqual(names_of(vale([("z", 1, 1)])), ["z"])

    def test_told_anew_each_time(self):
        valley = vale()
        told = names_of(valley)
        self.assertIs(type(told), list)
        self.assertIsNot(names_of(valley), told)
        told.append("more")
        told[0] = "less"
        self.assertEqual(names_of(valley), ["ash", "birch", "cedar"])

    def test_spots(self):
        valley = vale([("z", 1, 2), ("a", 9, FAR), ("m", -4, 0), ("b", 1, 2)])
        for name, spot in (("z", (1, 2)), ("a", (9, FAR)), ("m", (-4, 0)), ("b", (1, 2))):
            self.assertEqual(spot_of(valley, name), spot)
            self.assertIs(type(spot_of(valley, name)), tuple)

    def test_no_beacon(self):
        for name in ("elm", "", "as", "ashh", "ASH", "ash ", "ash\n", "0"):
            self.assertIs(refused(spot_of, vale(), name), NoBeacon, name)


class SightTest(unittest.TestCase):
    def assert_sight(self, valley, name, other, *spans):
        for one, two in ((name, other), (other, name)):
            answer = sight(valley, one, two)
            self.assertEqual(answer, spans, (one, two))
            self.assertIs(type(answer), tuple)
            for pair in answer:
                self.assertIs(type(pair), tuple)

    def test_nothing_between(self):
        self.assert_sight(vale(), "ash", "cedar", (0, 20))
        self.assert_sight(vale(first=-4, last=-4), "ash", "birch", (-4, -4))
        self.assert_sight(vale(first=-FAR, last=FAR), "ash", "birch", (-FAR, FAR))

    def test_of_one_with_itself(self):
        fogs = [wall(0, -9, 99), wall(10, 3, 4)]
        for valley in (vale(), vale(haze=0), vale(fogs=fogs), vale(fogs=fogs, haze=0), vale([("ash", 0, 0)], fogs)):
            self.assert_sight(valley, "ash", "ash", (0, 20))

    def test_two_in_one_spot(self):
        beacons = [("a", 3, 4), ("b", 3, 4)]
        self.assert_sight(vale(beacons), "a", "b", (0, 20))
        self.assert_sight(vale(beacons, haze=0), "a", "b", (0, 20))
        self.assert_sight(vale(beacons, [(3, 5, 4, 6, 8, 9, 0, 0)]), "a", "b", (0, 7), (10, 20))
        self.assert_sight(vale(beacons, [(4, 5, 4, 6, 8, 9, 0, 0)]), "a", "b", (0, 20))

    def test_one_place_and_two_heights(self):
        beacons = [("a", 3, 4), ("b", 3, 8)]
        self.assert_sight(vale(beacons, corners=HILLS), "a", "b", (0, 20))
        self.assert_sight(vale(beacons, haze=16), "a", "b", (0, 20))
        self.assert_sight(vale(beacons, haze=15), "a", "b")
        self.assert_sight(vale(beacons, [(0, 9, 6, 6, 2, 3, 0, 0)]), "a", "b", (0, 1), (4, 20))

    def test_ground_that_hinders(self):
        rows = (
            ((0, 0), (12, 0), False), ((0, 4), (12, 4), True), ((0, 4), (12, 3), False), ((0, 5), (12, 4), True),
            ((3, 4), (9, 4), True), ((3, 4), (6, 1), True), ((0, 0), (3, 4), True), ((0, 0), (6, 8), True),
            ((0, 0), (6, 7), False), ((0, 0), (12, 16), True), ((0, 0), (12, 15), False), ((3, 9), (12, 0), False),
            ((3, 9), (12, 2), True), ((3, 9), (12, 1), False), ((3, 11), (12, 0), False), ((3, 12), (12, 0), True))
        for one, other, clear in rows:
            valley = vale([("a",) + one, ("b",) + other], corners=HILLS)
            self.assert_sight(valley, "a", "b", *([(0, 20)] if clear else []))

    def test_haze(self):
        beacons = [("a", 0, 1), ("b", 3, 5), ("c", 6, 1)]
        for haze, near, far in ((24, False, False), (25, True, False), (26, True, False), (35, True, False), (36, True, True),
                                (0, False, False), (None, True, True)):
            valley = vale(beacons, haze=haze)
            self.assert_sight(valley, "a", "b", *([(0, 20)] if near else []))
            self.assert_sight(valley, "a", "c", *([(0, 20)] if far else []))
        far = [("a", -90, 0), ("b", 90, FAR)]
        self.assert_sight(vale(far, haze=FAR * FAR + 32400), "a", "b", (0, 20))
        self.assert_sight(vale(far, haze=FAR * FAR + 32399), "a", "b")
        self.assert_sight(vale(far, haze=None), "a", "b", (0, 20))

    def test_fogs_that_come_and_go(self):
        fogs = walls(15, (3, 3), (7, 9), (18, 30)) + walls(5, (0, 1), (20, 20))
        self.assert_sight(vale(fogs=fogs), "birch", "cedar", (0, 2), (4, 6), (10, 17))
        self.assert_sight(vale(fogs=fogs), "ash", "birch", (2, 19))
        self.assert_sight(vale(fogs=fogs), "ash", "cedar", (2, 2), (4, 6), (10, 17))
        self.assert_sight(vale(fogs=walls(15, (0, 10), (11, 20))), "birch", "cedar")
        self.assert_sight(vale(fogs=walls(15, (-9, -1), (21, 29))), "birch", "cedar", (0, 20))
        self.assert_sight(vale(fogs=walls(15, (1, 19))), "birch", "cedar", (0, 0), (20, 20))

    def test_a_fog_that_drifts(self):
        # Its place at hour t is 3 * (t - 1).
        fog = (0, 0, 0, 9, 1, 9, 3, 0)
        self.assert_sight(vale(fogs=[fog]), "birch", "cedar", (0, 4), (8, 20))
        self.assert_sight(vale(fogs=[fog]), "ash", "birch", (0, 0), (5, 20))
        self.assert_sight(vale(fogs=[fog], last=6), "birch", "cedar", (0, 4))
        self.assert_sight(vale(fogs=[fog], first=6), "birch", "cedar", (8, 20))

    def test_hours_of_fifty_figures(self):
        fog = (-FAR, -FAR, 0, 9, -FAR, 9 * FAR, 1, 0)
        self.assert_sight(vale(fogs=[fog], first=-FAR, last=FAR), "birch", "cedar", (-FAR, 9), (21, FAR))
        self.assert_sight(
            vale(fogs=walls(15, (5, FAR)), first=-FAR, last=2 * FAR), "birch", "cedar", (-FAR, 4), (FAR + 1, 2 * FAR))

    def test_no_beacon(self):
        for given in (("elm", "ash"), ("ash", "elm"), ("elm", "elm"), ("", "ash"), ("ash", "")):
            self.assertIs(refused(sight, vale(), *given), NoBeacon, given)

    def test_small_valleys_hour_by_hour(self):
        for valley in some_valleys(61, 60) + webs(62, 12):
            for (name, other), hours in slow_table(valley).items():
                self.assertEqual(sight(valley, name, other), spans_of(hours), fields(valley))


class HiddenTest(unittest.TestCase):
    def assert_hidden(self, valley, name, other, hour, answer):
        for one, two in ((name, other), (other, name)):
            told = hidden(valley, one, two, hour)
            self.assertEqual(told, answer)
            if answer is not None:
                self.assertIs(type(told), tuple)

    def test_seen(self):
        for hour in (0, 7, 20):
            self.assert_hidden(vale(), "ash", "cedar", hour, None)
            self.assert_hidden(vale(fogs=[wall(0, 0, 20)], haze=0), "ash", "ash", hour, None)

    def test_the_first_corner_that_hinders(self):
        for one, other, corner in (
                ((0, 0), (12, 0), 1), ((0, 0), (12, 9), 1), ((4, 4), (12, 0), 3), ((0, 9), (12, 0), 3), ((6, 2), (0, 9), None)):
            valley = vale([("a",) + one, ("b",) + other], corners=HILLS)
            self.assert_hidden(valley, "a", "b", 4, None if corner is None else ("ground", corner))

    def test_kinds_in_their_order(self):
        ground = [("a", 0, 0), ("b", 12, 0)]
        clear = [("a", 0, 9), ("b", 12, 9)]
        fogs = walls(5, (4, 6)) + walls(5, (5, 8))
        rows = (
            (ground, 143, fogs, 5, ("ground", 1)), (ground, 144, fogs, 5, ("ground", 1)), (ground, None, [], 5, ("ground", 1)),
            (clear, 143, fogs, 5, ("haze", 144)), (clear, 0, [], 5, ("haze", 144)), (clear, 144, fogs, 5, ("fog", 0)),
            (clear, None, fogs, 4, ("fog", 0)), (clear, None, fogs, 6, ("fog", 0)), (clear, None, fogs, 7, ("fog", 1)),
            (clear, 144, fogs, 8, ("fog", 1)), (clear, 144, fogs, 3, None), (clear, 144, fogs, 9, None),
            (clear, None, fogs[::-1], 5, ("fog", 0)), (clear, None, fogs[::-1], 4, ("fog", 1)))
        for beacons, haze, these_fogs, hour, answer in rows:
            self.assert_hidden(vale(beacons, these_fogs, haze, corners=HILLS), "a", "b", hour, answer)

    def test_two_in_one_spot_in_a_fog(self):
        valley = vale([("a", 3, 4), ("b", 3, 4)], [wall(9, 0, 20), (3, 5, 4, 6, 8, 9, 0, 0)])
        self.assert_hidden(valley, "a", "b", 7, None)
        self.assert_hidden(valley, "a", "b", 8, ("fog", 1))
        self.assert_hidden(valley, "a", "a", 8, None)

    def test_hours_outside(self):
        for valley in (vale(), vale([("ash", 0, 0), ("birch", 12, 0)], corners=HILLS), vale(haze=0)):
            for hour in (-1, 21, -FAR, FAR):
                self.assertIs(refused(hidden, valley, "ash", "birch", hour), BadHour)
                self.assertIs(refused(hidden, valley, "ash", "ash", hour), BadHour)
            for hour in (0, 20):
                self.assertIsNone(refused(hidden, valley, "ash", "birch", hour))

    def test_no_beacon_ahead_of_the_hour(self):
        for name, other in (("elm", "ash"), ("ash", "elm"), ("elm", "elm")):
            for hour in (5, -1, 21):
                self.assertIs(refused(hidden, vale(), name, other, hour), NoBeacon)

    def test_hours_of_fifty_figures(self):
        valley = vale(fogs=[(-FAR, -FAR, 0, 9, -FAR, 9 * FAR, 1, 0)], first=-FAR, last=FAR)
        for hour, answer in ((9, None), (10, ("fog", 0)), (20, ("fog", 0)), (21, None), (FAR, None), (-FAR, None)):
            self.assert_hidden(valley, "birch", "cedar", hour, answer)

    def test_small_valleys_hour_by_hour(self):
        for valley in some_valleys(63, 60):
            for name in names_of(valley):
                for other in names_of(valley):
                    for hour in range(valley.first, valley.last + 1):
                        self.assertEqual(
                            hidden(valley, name, other, hour), slow_hidden(valley, name, other, hour), fields(valley))


class WebTest(unittest.TestCase):
    def test_order(self):
        valley = vale([("d", 30, 5), ("a", 0, 5), ("c", 10, 5), ("b", 20, 5)], walls(15, (4, 6)), first=3)
        every = [("d", "a"), ("d", "c"), ("d", "b"), ("a", "c"), ("a", "b"), ("c", "b")]
        self.assertEqual(web_at(valley, 3), every)
        self.assertEqual(web_at(valley, 5), [("d", "b"), ("a", "c")])
        self.assertEqual(web_at(valley, 7), every)

    def test_one_beacon_and_none_that_see(self):
        self.assertEqual(web_at(vale([("a", 0, 0)]), 5), [])
        self.assertEqual(web_at(vale(haze=99), 5), [])

    def test_kinds_and_its_own(self):
        valley = vale()
        told = web_at(valley, 5)
        self.assertIs(type(told), list)
        for pair in told:
            self.assertIs(type(pair), tuple)
        told.clear()
        self.assertEqual(web_at(valley, 5), [("ash", "birch"), ("ash", "cedar"), ("birch", "cedar")])

    def test_hours_outside(self):
        for hour in (-1, 21, FAR, -FAR):
            self.assertIs(refused(web_at, vale(), hour), BadHour)
            self.assertIs(refused(web_at, vale([("a", 0, 0)]), hour), BadHour)
        for hour in (0, 20):
            self.assertEqual(len(web_at(vale(), hour)), 3)

    def test_small_valleys(self):
        for valley in some_valleys(64, 60):
            names = names_of(valley)
            for hour in range(valley.first, valley.last + 1):
                pairs = [pair for pair in combinations(names, 2) if slow_sees(valley, *pair, hour)]
                self.assertEqual(web_at(valley, hour), pairs)


class CompanyTest(unittest.TestCase):
    LINE = [("d", 30, 5), ("a", 0, 5), ("c", 20, 5), ("b", 10, 5), ("e", 70, 5)]

    def test_over_several_steps(self):
        valley = vale(self.LINE, walls(15, (4, 6)), haze=100)
        for name in "abcd":
            self.assertEqual(company(valley, 3, name), ["d", "a", "c", "b"])
        self.assertEqual(company(valley, 3, "e"), ["e"])
        for name, answer in (("a", ["a", "b"]), ("b", ["a", "b"]), ("c", ["d", "c"]), ("d", ["d", "c"]), ("e", ["e"])):
            self.assertEqual(company(valley, 5, name), answer)

    def test_a_long_row_back_and_forth(self):
        names = "gaebhcfdi"
        beacons = [(name, 10 * "abcdefghi".index(name), 5) for name in names]
        for name in names:
            self.assertEqual(company(vale(beacons, haze=100), 0, name), list(names))

    def test_itself_in_fog(self):
        self.assertEqual(company(vale([("a", 0, 0)], [wall(0, 0, 20)]), 5, "a"), ["a"])

    def test_its_own(self):
        valley = vale()
        told = company(valley, 5, "ash")
        self.assertIs(type(told), list)
        told.clear()
        self.assertEqual(company(valley, 5, "ash"), ["ash", "birch", "cedar"])

    def test_refusals(self):
        for hour in (-1, 21, FAR, -FAR):
            self.assertIs(refused(company, vale(), hour, "ash"), BadHour)
            self.assertIs(refused(company, vale(), hour, "elm"), NoBeacon)
            self.assertIs(refused(company, vale([("ash", 0, 5)]), hour, "ash"), BadHour)
            self.assertIs(refused(company, vale([("ash", 0, 5)]), hour, "elm"), NoBeacon)
        self.assertIs(refused(company, vale(), 5, "elm"), NoBeacon)
        for hour in (0, 20):
            self.assertEqual(company(vale(), hour, "cedar"), ["ash", "birch", "cedar"])

    def test_small_valleys(self):
        for valley in some_valleys(65, 40) + webs(66, 10):
            names = names_of(valley)
            for hour in range(valley.first, valley.last + 1):
                for name in names:
                    found = {name}
                    for turn in names:
                        found |= {other for one in found for other in names if slow_sees(valley, one, other, hour)}
                    self.assertEqual(company(valley, hour, name), [each for each in names if each in found])


class AskedAgainTest(unittest.TestCase):
    """[0.2]: the same asked again is told alike, and nothing handed in is changed."""

    def test_asked_twice(self):
        valley = vale(fogs=walls(15, (4, 6)), haze=150)
        before = fields(valley)
        for turn in range(2):
            self.assertEqual(sight(valley, "birch", "cedar"), ((0, 3), (7, 20)))
            self.assertEqual(hidden(valley, "ash", "cedar", 5), ("haze", 400))
            self.assertEqual(web_at(valley, 5), [("ash", "birch")])
            self.assertEqual(company(valley, 3, "cedar"), ["ash", "birch", "cedar"])
        self.assertEqual(fields(valley), before)


if __name__ == "__main__":
    unittest.main()
