"""[11.3] and beaconvale.watch."""

import random
import unittest

from beaconvale.errors import (
    BadFog, BadHour, BadName, NoBeacon, NoFog, NothingBack, OffGround, TooMany, Twice, ValeError)
from beaconvale.reading import show_valley
from beaconvale.tidings import earliest
from beaconvale.watch import Watch
from vales import FAR, FLAT, fields, refused, row_of_three, vale, wall

HILL = ((0, 0), (10, 4), (20, 0))
FOGS = ((0, 0, 0, 0, 1, 1, 0, 0), (0, 0, 0, 0, 2, 2, 0, 0), (0, 0, 0, 0, 3, 3, 0, 0))


def hill(**given):
    return vale([("a", 0, 5), ("b", 10, 5), ("c", 20, 5)], corners=HILL, **given)


class WatchCase(unittest.TestCase):
    def assert_beacons(self, watch, *beacons):
        self.assertEqual(watch.valley_now().beacons, list(beacons))

    def assert_fogs(self, watch, *fogs):
        self.assertEqual(watch.valley_now().fogs, list(fogs))

    def assert_refused(self, refusal, watch, deed, *given):
        """The deed is refused, nothing has changed and no deed is counted."""
        before = fields(watch.valley_now())
        self.assertIs(refused(getattr(watch, deed), *given), refusal, (deed, given))
        self.assertEqual(fields(watch.valley_now()), before)
        number = watch.foretell(wall(0, 0, 0)) if len(before[2]) < 12 else watch.lift(0)
        self.assertEqual(watch.back(), number - 1)
        self.assertEqual(fields(watch.valley_now()), before)
        return number - 1


class DeedsTest(WatchCase):
    def test_build(self):
        watch = Watch(hill())
        self.assertEqual(watch.build("d", 5, 2), 1)
        self.assertEqual(watch.build("aa", 0, 5), 2)
        self.assert_beacons(watch, ("a", 0, 5), ("b", 10, 5), ("c", 20, 5), ("d", 5, 2), ("aa", 0, 5))

    def test_raze(self):
        watch = Watch(hill())
        self.assertEqual(watch.raze("b"), 1)
        self.assert_beacons(watch, ("a", 0, 5), ("c", 20, 5))
        self.assertEqual(watch.raze("a"), 2)
        self.assert_beacons(watch, ("c", 20, 5))

    def test_raise_to(self):
        watch = Watch(hill())
        self.assertEqual(watch.raise_to("b", 9), 1)
        self.assert_beacons(watch, ("a", 0, 5), ("b", 10, 9), ("c", 20, 5))
        self.assertEqual(watch.raise_to("b", 4), 2)
        self.assertEqual(watch.raise_to("c", 0), 3)
        self.assertEqual(watch.raise_to("a", FAR), 4)
        self.assert_beacons(watch, ("a", 0, FAR), ("b", 10, 4), ("c", 20, 0))

    def test_a_deed_that_leaves_all_as_it_was_is_one_too(self):
        watch = Watch(hill())
        self.assertEqual(watch.raise_to("b", 5), 1)
        self.assertEqual(watch.raise_to("b", 5), 2)
        self.assertEqual(watch.back(), 1)

    def test_foretell(self):
        watch = Watch(hill(fogs=FOGS[:1]))
        self.assertEqual(watch.foretell(FOGS[2]), 1)
        self.assertEqual(watch.foretell(FOGS[1]), 2)
        self.assertEqual(watch.foretell(FOGS[1]), 3)
        self.assert_fogs(watch, FOGS[0], FOGS[2], FOGS[1], FOGS[1])

    def test_lift(self):
        for k in range(3):
            watch = Watch(hill(fogs=FOGS))
            self.assertEqual(watch.lift(k), 1)
            self.assert_fogs(watch, *FOGS[:k], *FOGS[k + 1:])
        watch = Watch(hill(fogs=FOGS))
        self.assertEqual([watch.lift(0), watch.lift(1), watch.lift(0)], [1, 2, 3])
        self.assert_fogs(watch)

    def test_the_rest_of_the_valley_stays(self):
        watch = Watch(hill(fogs=FOGS, haze=900, first=-4, last=8, delay=3))
        for deed, given in (
                ("build", ("d", 5, 2)), ("raze", ("a",)), ("raise_to", ("c", 7)), ("foretell", (wall(0, 1, 2),)), ("lift", (1,))):
            getattr(watch, deed)(*given)
            told = fields(watch.valley_now())
            self.assertEqual((told[0], told[3:]), (list(HILL), (900, -4, 8, 3)))
        self.assertEqual(told[1:3], ([("b", 10, 5), ("c", 20, 7), ("d", 5, 2)], [FOGS[0], FOGS[2], wall(0, 1, 2)]))


class RefusalTest(WatchCase):
    def test_build(self):
        watch = Watch(hill())
        for name in ("", "abcdefghi", "A", "a b", "d1"):
            self.assert_refused(BadName, watch, "build", name, 5, 9)
            self.assert_refused(BadName, watch, "build", name, 5, 1)
        for name in "abc":
            self.assert_refused(Twice, watch, "build", name, 5, 9)
            self.assert_refused(Twice, watch, "build", name, 5, 1)
        for spot in ((5, 1), (-1, 9), (21, 9), (0, -1), (FAR, FAR)):
            self.assert_refused(OffGround, watch, "build", "d", *spot)

    def test_build_one_too_many(self):
        watch = Watch(vale([("abcdefghijkl"[k], k, 5) for k in range(12)]))
        for given in (("m", 0, 5), ("", 0, 5), ("a", 0, 5), ("m", 0, -5)):
            self.assert_refused(TooMany, watch, "build", *given)
        self.assertEqual(watch.raze("a"), 1)
        self.assertEqual(watch.build("m", 0, 5), 2)

    def test_raze(self):
        watch = Watch(hill())
        for name in ("d", "", "A", "aa"):
            self.assert_refused(NoBeacon, watch, "raze", name)
        watch.raze("b")
        self.assert_refused(NoBeacon, watch, "raze", "b")
        watch.raze("a")
        self.assert_refused(TooMany, watch, "raze", "c")
        self.assert_refused(NoBeacon, watch, "raze", "a")
        self.assert_refused(NoBeacon, Watch(vale([("a", 0, 5)])), "raze", "b")
        self.assert_refused(TooMany, Watch(vale([("a", 0, 5)])), "raze", "a")

    def test_raise_to(self):
        watch = Watch(hill())
        for name in ("d", "", "A"):
            for z in (9, -9):
                self.assert_refused(NoBeacon, watch, "raise_to", name, z)
        self.assert_refused(OffGround, watch, "raise_to", "a", -1)
        self.assert_refused(OffGround, watch, "raise_to", "b", 3)
        self.assert_refused(OffGround, watch, "raise_to", "c", -FAR)

    def test_foretell(self):
        watch = Watch(hill())
        for fog in (
                (1, 0, 0, 0, 0, 0, 0, 0), (0, 0, 1, 0, 0, 0, 0, 0), (0, 0, 0, 0, 1, 0, 0, 0), (0,) * 7, (0,) * 9, (),
                [0] * 8, None, (True,) * 8, "fog", 5):
            self.assert_refused(BadFog, watch, "foretell", fog)
        full = Watch(hill(fogs=FOGS * 4))
        for fog in (FOGS[0], (0,) * 7, None):
            self.assert_refused(TooMany, full, "foretell", fog)
        self.assertEqual(full.lift(11), 1)
        self.assertEqual(full.foretell(FOGS[0]), 2)

    def test_lift(self):
        watch = Watch(hill(fogs=FOGS))
        for k in (3, 4, 12, FAR, -1, -2, -3, -4, -FAR):
            self.assert_refused(NoFog, watch, "lift", k)
        for k in (0, 1, -1):
            self.assert_refused(NoFog, Watch(hill()), "lift", k)

    def test_refused_deeds_are_not_counted(self):
        watch = Watch(hill())
        self.assertEqual(watch.build("d", 5, 9), 1)
        for deed, given in (
                ("build", ("d", 5, 9)), ("raze", ("x",)), ("raise_to", ("a", -1)), ("foretell", (None,)), ("lift", (0,))):
            self.assertIsNotNone(refused(getattr(watch, deed), *given))
        self.assertEqual(watch.raze("a"), 2)
        self.assertEqual(watch.back(), 1)
        self.assertEqual(watch.back(), 0)
        self.assertIs(refused(watch.back), NothingBack)
        self.assertEqual(fields(watch.valley_now()), fields(hill()))


class BackTest(WatchCase):
    def test_nothing_back(self):
        watch = Watch(hill())
        self.assert_refused(NothingBack, watch, "back")
        watch.raze("a")
        self.assertEqual(watch.back(), 0)
        self.assert_refused(NothingBack, watch, "back")
        self.assert_refused(NothingBack, watch, "back")

    def test_over_all_kinds_of_deeds(self):
        deeds = (
            ("build", ("d", 5, 9)), ("raze", ("b",)), ("raise_to", ("c", 9)), ("foretell", (wall(3, 1, 4),)), ("lift", (1,)),
            ("build", ("b", 1, 1)), ("lift", (0,)), ("raise_to", ("b", 8)), ("raze", ("a",)), ("foretell", (FOGS[0],)))
        watch = Watch(hill(fogs=FOGS))
        stages = [fields(watch.valley_now())]
        for number, (deed, given) in enumerate(deeds, start=1):
            self.assertEqual(getattr(watch, deed)(*given), number)
            stages.append(fields(watch.valley_now()))
        self.assertEqual(len({str(stage) for stage in stages}), len(stages))
        for number in reversed(range(len(deeds))):
            self.assertEqual(watch.back(), number)
            self.assertEqual(fields(watch.valley_now()), stages[number])
        self.assertIs(refused(watch.back), NothingBack)
        self.assertEqual(fields(watch.valley_now()), fields(hill(fogs=FOGS)))

    def test_deeds_behind_a_deed_undone(self):
        watch = Watch(hill())
        watch.build("d", 5, 9)
        watch.build("e", 5, 9)
        self.assertEqual(watch.back(), 1)
        self.assertEqual(watch.build("f", 6, 9), 2)
        self.assert_beacons(watch, ("a", 0, 5), ("b", 10, 5), ("c", 20, 5), ("d", 5, 9), ("f", 6, 9))
        self.assertEqual([watch.back(), watch.back()], [1, 0])
        self.assert_beacons(watch, ("a", 0, 5), ("b", 10, 5), ("c", 20, 5))

    def test_a_razed_beacon_and_a_lifted_fog_come_back_to_their_places(self):
        watch = Watch(hill(fogs=FOGS))
        watch.raze("b")
        watch.lift(1)
        watch.back()
        self.assert_fogs(watch, *FOGS)
        watch.back()
        self.assert_beacons(watch, ("a", 0, 5), ("b", 10, 5), ("c", 20, 5))

    def test_sixty_deeds(self):
        watch = Watch(hill())
        for number in range(1, 61):
            self.assertEqual(watch.raise_to("b", 10 + number), number)
        for number in reversed(range(60)):
            self.assert_beacons(watch, ("a", 0, 5), ("b", 10, 11 + number), ("c", 20, 5))
            self.assertEqual(watch.back(), number)
        self.assert_refused(NothingBack, watch, "back")
        self.assertEqual(fields(watch.valley_now()), fields(hill()))

    def test_a_long_row_by_a_plain_reckoning(self):
        rng = random.Random(121)
        for turn in range(30):
            watch = Watch(vale(fogs=FOGS))
            beacons, fogs = list(vale().beacons), list(FOGS)
            past = []
            for step in range(60):
                kind = rng.choice(("build", "raze", "raise_to", "foretell", "lift", "back"))
                name, x, z = rng.choice("abc") * rng.randint(1, 2), rng.randint(-105, 100), rng.randint(-1, 9)
                names = [beacon[0] for beacon in beacons]
                new_beacons, new_fogs = list(beacons), list(fogs)
                if kind == "back":
                    due = None if past else NothingBack
                    given = ()
                    new_beacons, new_fogs = past[-1] if past else (beacons, fogs)
                elif kind == "build":
                    given = (name, x, z)
                    due = TooMany if len(beacons) == 12 else Twice if name in names else OffGround if z < 0 or x < -100 else None
                    new_beacons.append((name, x, z))
                elif kind == "raze":
                    given = (name,)
                    due = NoBeacon if name not in names else TooMany if len(names) == 1 else None
                    new_beacons = [beacon for beacon in beacons if beacon[0] != name]
                elif kind == "raise_to":
                    given = (name, z)
                    due = NoBeacon if name not in names else OffGround if z < 0 else None
                    new_beacons = [(each, place, z if each == name else height) for each, place, height in beacons]
                elif kind == "foretell":
                    given = (wall(x, z, z + rng.randint(-1, 3)),)
                    due = TooMany if len(fogs) == 12 else BadFog if given[0][4] > given[0][5] else None
                    new_fogs.append(given[0])
                else:
                    given = (rng.randint(-1, 4),)
                    due = None if 0 <= given[0] < len(fogs) else NoFog
                    new_fogs = [fog for k, fog in enumerate(fogs) if k != given[0]]
                if due is not None:
                    self.assert_refused(due, watch, kind, *given)
                    continue
                if kind == "back":
                    past.pop()
                else:
                    past.append((beacons, fogs))
                self.assertEqual(getattr(watch, kind)(*given), len(past))
                beacons, fogs = new_beacons, new_fogs
                self.assertEqual(show_valley(watch.valley_now()), show_valley(vale(beacons, fogs)))


class OwnTest(WatchCase):
    """[0.2]: nothing done to what is handed in or told changes anything at the watch."""

    def spoil(self, valley):
        valley.beacons.append(("zzz", 0, 0))
        valley.beacons[0] = ("yyy", 1, 1)
        valley.fogs.clear()
        valley.ground.corners[0] = (-1000, 5)
        valley.haze = 0
        valley.first = 99
        valley.last = 100
        valley.delay = 77

    def test_the_valley_handed_in(self):
        valley = hill(fogs=FOGS)
        watch = Watch(valley)
        self.spoil(valley)
        self.assertEqual(fields(watch.valley_now()), fields(hill(fogs=FOGS)))
        self.assertEqual(watch.hour_of("a", 3, "b"), 4)
        self.assertEqual(watch.lift(2), 1)
        self.assertEqual(fields(watch.valley_now()), fields(hill(fogs=FOGS[:2])))

    def test_the_valley_told(self):
        watch = Watch(hill(fogs=FOGS))
        self.spoil(watch.valley_now())
        self.assertEqual(fields(watch.valley_now()), fields(hill(fogs=FOGS)))
        watch.build("d", 5, 9)
        kept = watch.valley_now()
        before = fields(kept)
        self.spoil(watch.valley_now())
        self.assertEqual(fields(watch.valley_now()), before)
        self.assertEqual(watch.back(), 0)
        self.assertEqual(fields(watch.valley_now()), fields(hill(fogs=FOGS)))
        self.assertEqual(fields(kept), before)

    def test_what_was_told_stays_as_it_was(self):
        watch = Watch(hill(fogs=FOGS))
        told = watch.valley_now()
        for deed, given in (
                ("build", ("d", 5, 9)), ("raze", ("a",)), ("lift", (0,)), ("raise_to", ("b", 9)), ("foretell", (FOGS[0],))):
            getattr(watch, deed)(*given)
            self.assertEqual(fields(told), fields(hill(fogs=FOGS)))
        watch.back()
        self.assertEqual(fields(told), fields(hill(fogs=FOGS)))

    def test_the_valley_handed_in_is_not_changed(self):
        valley = hill(fogs=FOGS)
        watch = Watch(valley)
        watch.build("d", 5, 9)
        watch.raze("a")
        watch.lift(0)
        watch.foretell(wall(1, 2, 3))
        watch.raise_to("b", 9)
        self.assertEqual(fields(valley), fields(hill(fogs=FOGS)))

    def test_two_watches_of_one_valley(self):
        valley = hill(fogs=FOGS)
        one, other = Watch(valley), Watch(valley)
        self.assertEqual(one.raze("a"), 1)
        self.assertEqual(one.lift(0), 2)
        self.assertEqual(fields(other.valley_now()), fields(hill(fogs=FOGS)))
        self.assertIs(refused(other.back), NothingBack)
        third = Watch(one.valley_now())
        self.assertEqual(third.raze("b"), 1)
        self.assert_beacons(one, ("b", 10, 5), ("c", 20, 5))

    def test_shown_as_the_deeds_made_it(self):
        watch = Watch(row_of_three())
        watch.build("d", 30, 5)
        watch.foretell((5, 6, 0, 9, 1, 4, -1, 0))
        watch.raise_to("b", 8)
        watch.raze("a")
        self.assertEqual(show_valley(watch.valley_now()), (
            f"ground {FLAT[0][0]}:0 {FLAT[1][0]}:0\nhours 0 20\ndelay 2\nhaze 100\n"
            "beacon b 10 8\nbeacon c 20 5\nbeacon d 30 5\nfog 5 6 0 9 1 4 -1 0"))


class HourOfTest(WatchCase):
    def test_by_the_valley_as_it_stands(self):
        watch = Watch(row_of_three())
        self.assertEqual([watch.hour_of("a", 3, goal) for goal in "abc"], [3, 5, 7])
        watch.foretell(wall(5, 3, 8))
        self.assertEqual([watch.hour_of("a", 3, goal) for goal in "abc"], [3, 11, 13])
        watch.build("d", 10, 5)
        self.assertEqual([watch.hour_of("a", 3, goal) for goal in "abcd"], [3, 11, 13, 11])
        watch.lift(0)
        self.assertEqual([watch.hour_of("a", 3, goal) for goal in "abcd"], [3, 5, 7, 5])
        watch.raze("b")
        watch.raze("d")
        self.assertEqual([watch.hour_of("a", 3, goal) for goal in "ac"], [3, None])
        for turn in range(5):
            watch.back()
        self.assertEqual([watch.hour_of("c", 20, goal) for goal in "abc"], [None, 22, 20])

    def test_raised_and_hidden(self):
        watch = Watch(vale([("a", 0, 0), ("c", 20, 0)], corners=HILL))
        self.assertIsNone(watch.hour_of("a", 3, "c"))
        watch.raise_to("a", 8)
        self.assertEqual(watch.hour_of("a", 3, "c"), 4)

    def test_by_the_earliest(self):
        watch = Watch(row_of_three(fogs=[wall(5, 3, 8), wall(15, 0, 10)]))
        for name in "abc":
            for hour in range(21):
                self.assertEqual(
                    [watch.hour_of(name, hour, goal) for goal in "abc"], earliest(watch.valley_now(), name, hour))

    def test_refusals(self):
        watch = Watch(row_of_three())
        for hour in (5, -1, 21, FAR):
            for name, goal in (("x", "a"), ("a", "x"), ("x", "x"), ("", "a")):
                self.assert_refused(NoBeacon, watch, "hour_of", name, hour, goal)
        for hour in (-1, 21, FAR, -FAR):
            for name, goal in (("a", "a"), ("a", "c"), ("c", "b")):
                self.assert_refused(BadHour, watch, "hour_of", name, hour, goal)
        for hour in (0, 20):
            self.assertEqual(watch.hour_of("a", hour, "a"), hour)

    def test_it_is_no_deed(self):
        watch = Watch(row_of_three())
        watch.hour_of("a", 3, "c")
        watch.valley_now()
        self.assertEqual(watch.raze("a"), 1)
        self.assertIs(refused(watch.hour_of, "a", 3, "b"), NoBeacon)
        self.assertIs(refused(watch.hour_of, "b", 3, "a"), NoBeacon)
        watch.back()
        self.assertEqual(watch.hour_of("a", 3, "b"), 5)

    def test_refusals_are_vale_errors(self):
        with self.assertRaises(ValeError):
            Watch(row_of_three()).back()


if __name__ == "__main__":
    unittest.main()
