"""[10.1] and beaconvale.apart."""

import random
import unittest
from itertools import chain, combinations, permutations

from beaconvale.apart import keeps_apart, lone_keepers, road_stands, roads_and_keepers
from beaconvale.errors import BadHour, Beside, NoBeacon
from vales import FAR, fields, refused, slow_names, slow_sees, vale, wall, walls

# Two roads, from s by a to t and from s by d to t; the short road from s by a and d to t bars them both.
CROSSED = (
    ("s", 0, 20), ("a", 9, 24), ("d", 18, 16), ("t", 27, 20), ("be", 16, 34), ("bo", 25, 31), ("ce", 2, 9), ("co", 11, 6))
# Beacons l and r see m alone, and so do three more, each on its own side.
STAR = (("l", 0, 5), ("up", 10, 15), ("m", 10, 5), ("down", 10, 0), ("r", 20, 5))


def crossed(**given):
    return vale(CROSSED, haze=150, **given)


def line(count, **given):
    return vale([("abcdefghi"[k], 10 * k, 5) for k in range(count)], haze=100, **given)


def some_web(rng, count):
    """Spots that see those near them, and some pairs that fogs hide at some hours."""
    beacons = [("hgfedcbai"[k], rng.randint(0, 30), rng.randint(0, 30)) for k in range(count)]
    fogs = []
    for k in range(rng.randint(0, 12)):
        x, z = rng.randint(0, 30), rng.randint(0, 30)
        fogs.append((x, x + 1, z, z + 1, 0, rng.randint(0, 20), 0, 0))
    return vale(beacons, fogs, rng.choice((100, 150, 250, 400)))


def some_webs(seed, count, most=9):
    rng = random.Random(seed)
    return [some_web(rng, rng.randint(2, most)) for k in range(count)]


def slow_web(valley, hour):
    names = slow_names(valley)
    return {name: [other for other in names if other != name and slow_sees(valley, name, other, hour)] for name in names}


def comes_to(web, name, other, barred):
    found, waiting = {name}, [name]
    while waiting:
        for each in web[waiting.pop()]:
            if each not in found and each not in barred:
                found.add(each)
                waiting.append(each)
    return other in found


def pairs_apart(valley, web):
    return [pair for pair in permutations(slow_names(valley), 2) if pair[1] not in web[pair[0]]]


class ApartCase(unittest.TestCase):
    def assert_road(self, web, name, other, road):
        self.assertIs(type(road), list)
        self.assertEqual((road[0], road[-1]), (name, other))
        self.assertEqual(len(set(road)), len(road))
        for one, two in zip(road, road[1:]):
            self.assertIn(two, web[one])


class RoadsAndKeepersTest(ApartCase):
    def assert_told(self, valley, hour, name, other, size=None):
        told = roads_and_keepers(valley, hour, name, other)
        self.assertIs(type(told), tuple)
        roads, keepers = told
        self.assertEqual([type(roads), type(keepers)], [list, list])
        self.assertEqual(len(roads), len(keepers), (fields(valley), hour, name, other))
        if size is not None:
            self.assertEqual(len(roads), size, (fields(valley), hour, name, other))
        web = slow_web(valley, hour)
        for road in roads:
            self.assert_road(web, name, other, road)
            self.assertIs(road_stands(valley, hour, name, other, road), True)
        inner = list(chain.from_iterable(road[1:-1] for road in roads))
        self.assertEqual(len(set(inner)), len(inner))
        self.assertEqual(keepers, [each for each in slow_names(valley) if each in keepers and each not in (name, other)])
        self.assertFalse(comes_to(web, name, other, keepers), (fields(valley), hour, name, other))
        self.assertIs(keeps_apart(valley, hour, name, other, keepers), True)
        return told

    def test_no_road(self):
        for name, other in (("ash", "birch"), ("ash", "cedar"), ("cedar", "birch")):
            self.assertEqual(roads_and_keepers(vale(haze=99), 5, name, other), ([], []))
        self.assertEqual(roads_and_keepers(line(4, fogs=walls(15, (3, 9))), 5, "a", "d"), ([], []))
        self.assertEqual(roads_and_keepers(vale([("a", 0, 5), ("b", 50, 5)], haze=9), 0, "a", "b"), ([], []))

    def test_one_road(self):
        roads, keepers = self.assert_told(line(4), 5, "a", "d", 1)
        self.assertEqual(roads, [["a", "b", "c", "d"]])
        self.assertIn(keepers, (["b"], ["c"]))
        self.assertEqual(roads_and_keepers(line(3), 5, "a", "c"), ([["a", "b", "c"]], ["b"]))
        self.assertEqual(roads_and_keepers(line(3), 5, "c", "a"), ([["c", "b", "a"]], ["b"]))
        self.assert_told(line(9), 20, "a", "i", 1)
        self.assert_told(line(9), 0, "h", "b", 1)

    def test_one_beacon_that_all_must_pass(self):
        valley = vale(STAR, haze=100)
        self.assertEqual(roads_and_keepers(valley, 5, "l", "r"), ([["l", "m", "r"]], ["m"]))

    def test_several_roads(self):
        # All but the ends of a ladder see one another and both ends.
        beacons = [("s", 0, 5)] + [("abcdefg"[k], 10, 5 + k) for k in range(7)] + [("t", 20, 5)]
        valley = vale(beacons, haze=160)
        roads, keepers = self.assert_told(valley, 5, "s", "t", 7)
        self.assertEqual(keepers, list("abcdefg"))
        self.assertEqual(sorted(roads), [["s", each, "t"] for each in "abcdefg"])

    def test_going_back_on_an_earlier_choice(self):
        for name, other in (("s", "t"), ("t", "s")):
            self.assert_told(crossed(), 5, name, other, 2)
        for shuffled in permutations(CROSSED[1:6]):
            valley = vale((CROSSED[0],) + shuffled + CROSSED[6:], haze=150)
            roads, keepers = self.assert_told(valley, 5, "s", "t", 2)
            self.assertIn(["s", "a", "be", "bo", "t"], roads)
            self.assertIn(["s", "ce", "co", "d", "t"], roads)

    def test_keepers_in_the_beacons_order(self):
        # Each road has one beacon between its ends, so the keepers are told beyond doubt.
        beacons = [("z", 10, 5), ("t", 20, 5), ("m", 10, 6), ("s", 0, 5), ("a", 10, 7)]
        roads, keepers = self.assert_told(vale(beacons, haze=110), 5, "s", "t", 3)
        self.assertEqual(keepers, ["z", "m", "a"])

    def test_other_hours(self):
        valley = vale([("s", 0, 5), ("a", 10, 9), ("b", 10, 1), ("t", 20, 5)], [(5, 5, 7, 7, 3, 6, 0, 0)], 120)
        for hour, size in ((2, 2), (3, 1), (6, 1), (7, 2)):
            roads, keepers = self.assert_told(valley, hour, "s", "t", size)
            self.assertEqual(keepers, ["a", "b"] if size == 2 else ["b"])

    def test_as_many_as_can_be(self):
        for valley in some_webs(101, 60):
            web = slow_web(valley, 5)
            for name, other in pairs_apart(valley, web):
                self.assert_told(valley, 5, name, other)

    def test_no_fewer_keepers(self):
        for valley in some_webs(102, 20, 7):
            web = slow_web(valley, 5)
            for name, other in pairs_apart(valley, web):
                others = [each for each in slow_names(valley) if each not in (name, other)]
                sizes = [
                    size for size in range(len(others) + 1)
                    if any(not comes_to(web, name, other, few) for few in combinations(others, size))]
                self.assert_told(valley, 5, name, other, min(sizes))

    def test_lists_are_the_askers_own(self):
        valley = crossed()
        roads, keepers = roads_and_keepers(valley, 5, "s", "t")
        before = ([list(road) for road in roads], list(keepers))
        lists = [roads, keepers] + roads
        self.assertEqual(len({id(each) for each in lists}), len(lists))
        keepers.clear()
        roads[0].clear()
        roads.pop()
        self.assertEqual(roads_and_keepers(valley, 5, "s", "t"), before)


class RoadStandsTest(ApartCase):
    def assert_stands(self, valley, name, other, road, answer, hour=5):
        given = list(road)
        self.assertIs(road_stands(valley, hour, name, other, given), answer, road)
        self.assertEqual(given, list(road))

    def test_roads(self):
        self.assert_stands(line(4), "a", "d", ["a", "b", "c", "d"], True)
        self.assert_stands(line(4), "d", "a", ["d", "c", "b", "a"], True)
        for road in ("s a d t", "s a be bo t", "s ce co d t", "s ce co d a be bo t"):
            self.assert_stands(crossed(), "s", "t", road.split(" "), True)

    def test_a_name_twice(self):
        self.assert_stands(line(4), "a", "d", ["a", "b", "c", "b", "c", "d"], False)
        self.assert_stands(line(4), "a", "d", ["a", "b", "a", "b", "c", "d"], False)
        self.assert_stands(line(4), "a", "d", ["a", "a", "b", "c", "d"], False)
        self.assert_stands(line(4), "a", "d", ["a", "b", "b", "c", "d"], False)
        self.assert_stands(line(4), "a", "d", ["a", "b", "c", "d", "d"], False)
        self.assert_stands(line(4), "a", "d", ["a", "b", "c", "d", "c", "d"], False)

    def test_a_name_that_is_none(self):
        for name in ("x", "", "B", "b "):
            self.assert_stands(line(4), "a", "d", ["a", name, "c", "d"], False)
            self.assert_stands(line(4), "a", "d", ["a", "b", name, "c", "d"], False)
            self.assert_stands(line(4), "a", "d", [name, "b", "c", "d"], False)
            self.assert_stands(line(4), "a", "d", ["a", "b", "c", name], False)

    def test_a_wrong_end(self):
        for road in (["b", "c", "d"], ["a", "b", "c"], ["d", "c", "b", "a"], ["a"], ["d"], ["b"], ["b", "c"], ["b", "a"]):
            self.assert_stands(line(4), "a", "d", road, False)

    def test_a_step_that_is_not_seen(self):
        for road in (["a", "d"], ["a", "c", "d"], ["a", "b", "d"], ["a", "c", "b", "d"]):
            self.assert_stands(line(4), "a", "d", road, False)
        valley = line(4, fogs=walls(15, (5, 5)))
        for hour, answer in ((4, True), (5, False), (6, True)):
            self.assert_stands(valley, "a", "d", ["a", "b", "c", "d"], answer, hour)

    def test_the_empty_list(self):
        self.assert_stands(line(4), "a", "d", [], False)

    def test_all_lists_of_a_small_web(self):
        valley = vale([("s", 0, 5), ("a", 10, 9), ("b", 10, 1), ("t", 20, 5)], haze=120)
        stand = []
        for size in range(5):
            for road in permutations(("s", "a", "b", "t"), size):
                if road_stands(valley, 5, "s", "t", list(road)):
                    stand.append(list(road))
        self.assertEqual(sorted(stand), [["s", "a", "b", "t"], ["s", "a", "t"], ["s", "b", "a", "t"], ["s", "b", "t"]])


class KeepsApartTest(ApartCase):
    def assert_keeps(self, valley, name, other, names, answer, hour=5):
        given = list(names)
        self.assertIs(keeps_apart(valley, hour, name, other, given), answer, names)
        self.assertEqual(given, list(names))

    def test_the_keepers_told_and_one_fewer(self):
        for valley in some_webs(103, 25):
            for name, other in pairs_apart(valley, slow_web(valley, 5)):
                keepers = roads_and_keepers(valley, 5, name, other)[1]
                self.assert_keeps(valley, name, other, keepers, True)
                self.assert_keeps(valley, name, other, keepers[::-1], True)
                for k in range(len(keepers)):
                    self.assert_keeps(valley, name, other, keepers[:k] + keepers[k + 1:], False)

    def test_none_and_all_others(self):
        self.assert_keeps(line(4), "a", "d", [], False)
        self.assert_keeps(line(4, fogs=[wall(15, 5, 5)]), "a", "d", [], True)
        self.assert_keeps(line(4), "a", "d", ["b", "c"], True)
        self.assert_keeps(line(4), "a", "d", ["c"], True)
        self.assert_keeps(crossed(), "s", "t", ["a"], False)
        self.assert_keeps(crossed(), "s", "t", ["a", "d"], True)
        self.assert_keeps(crossed(), "s", "t", ["d", "be"], True)
        self.assert_keeps(crossed(), "s", "t", ["be", "ce"], False)
        self.assert_keeps(crossed(), "s", "t", ["ce", "co", "be", "bo"], False)
        self.assert_keeps(crossed(), "s", "t", ["a", "d", "be", "bo", "ce", "co"], True)

    def test_with_an_end_or_a_name_that_is_none(self):
        for more in ("x", "", "B", "a", "d"):
            self.assert_keeps(line(4), "a", "d", [more], False)
            self.assert_keeps(line(4), "a", "d", ["b", "c", more], False)
            self.assert_keeps(line(4), "a", "d", [more, "b"], False)
            self.assert_keeps(line(4, fogs=[wall(15, 5, 5)]), "a", "d", [more], False)

    def test_other_hours(self):
        valley = line(4, fogs=walls(15, (5, 5)))
        for hour, answer in ((4, False), (5, True), (6, False)):
            self.assert_keeps(valley, "a", "d", [], answer, hour)

    def test_all_choices(self):
        for valley in some_webs(104, 12, 7):
            web = slow_web(valley, 5)
            for name, other in pairs_apart(valley, web):
                others = [each for each in slow_names(valley) if each not in (name, other)]
                for size in range(len(others) + 1):
                    for few in combinations(others, size):
                        self.assert_keeps(valley, name, other, few, not comes_to(web, name, other, few))


class LoneKeepersTest(ApartCase):
    def assert_lone(self, valley, name, other, *names, hour=5):
        answer = lone_keepers(valley, hour, name, other)
        self.assertEqual(answer, list(names), (fields(valley), hour, name, other))
        self.assertIs(type(answer), list)

    def test_none_one_and_several(self):
        self.assert_lone(crossed(), "s", "t")
        self.assert_lone(line(3), "a", "c", "b")
        self.assert_lone(vale(STAR, haze=100), "l", "r", "m")
        self.assert_lone(line(5), "a", "e", "b", "c", "d")
        self.assert_lone(line(5), "e", "b", "c", "d")

    def test_all_others_where_there_is_no_road(self):
        self.assert_lone(line(5, fogs=walls(25, (5, 5))), "a", "e", "b", "c", "d")
        self.assert_lone(line(5, fogs=walls(25, (5, 5))), "a", "d", "b", "c", "e")
        self.assert_lone(vale([("a", 0, 5), ("b", 50, 5)], haze=9), "a", "b")
        self.assert_lone(vale(haze=99), "cedar", "ash", "birch")

    def test_order(self):
        beacons = [("z", 30, 5), ("s", 0, 5), ("m", 10, 5), ("t", 40, 5), ("a", 20, 5)]
        self.assert_lone(vale(beacons, haze=100), "s", "t", "z", "m", "a")

    def test_other_hours(self):
        valley = vale([("s", 0, 5), ("a", 10, 9), ("b", 10, 1), ("t", 20, 5)], [(5, 5, 7, 7, 3, 6, 0, 0)], 120)
        self.assert_lone(valley, "s", "t", hour=2)
        self.assert_lone(valley, "s", "t", "b", hour=3)

    def test_each_by_itself(self):
        for valley in some_webs(105, 40):
            web = slow_web(valley, 5)
            for name, other in pairs_apart(valley, web):
                others = [each for each in slow_names(valley) if each not in (name, other)]
                self.assert_lone(valley, name, other, *[each for each in others if not comes_to(web, name, other, [each])])

    def test_its_own(self):
        valley = line(5)
        lone_keepers(valley, 5, "a", "e").clear()
        self.assert_lone(valley, "a", "e", "b", "c", "d")


class RefusalTest(unittest.TestCase):
    CALLS = (
        lambda *given: roads_and_keepers(*given), lambda *given: lone_keepers(*given),
        lambda *given: road_stands(*given, []), lambda *given: road_stands(*given, ["a", "b", "c", "d"]),
        lambda *given: road_stands(*given, ["x"]), lambda *given: keeps_apart(*given, []),
        lambda *given: keeps_apart(*given, ["b"]), lambda *given: keeps_apart(*given, ["x"]))

    def assert_refused(self, refusal, valley, hour, name, other):
        for call in self.CALLS:
            self.assertIs(refused(call, valley, hour, name, other), refusal, (hour, name, other))

    def test_no_beacon_ahead_of_all(self):
        for hour in (5, -1, 21, FAR):
            for name, other in (("x", "a"), ("a", "x"), ("x", "x"), ("", "d")):
                self.assert_refused(NoBeacon, line(4), hour, name, other)

    def test_then_the_hour(self):
        for hour in (-1, 21, FAR, -FAR):
            for name, other in (("a", "d"), ("a", "b"), ("a", "a")):
                self.assert_refused(BadHour, line(4), hour, name, other)

    def test_then_beside(self):
        for hour in (0, 5, 20):
            for name, other in (("a", "b"), ("b", "a"), ("c", "d"), ("a", "a"), ("d", "d")):
                self.assert_refused(Beside, line(4), hour, name, other)
            self.assert_refused(None, line(4), hour, "a", "d")

    def test_beside_at_that_hour_alone(self):
        valley = line(4, fogs=walls(15, (5, 5)))
        for hour, refusal in ((4, Beside), (5, None), (6, Beside)):
            self.assert_refused(refusal, valley, hour, "b", "c")

    def test_two_in_one_spot(self):
        valley = vale([("a", 0, 5), ("b", 0, 5)], [(0, 0, 5, 5, 5, 5, 0, 0)])
        for hour, refusal in ((4, Beside), (5, None)):
            self.assert_refused(refusal, valley, hour, "a", "b")
            self.assert_refused(Beside, valley, hour, "a", "a")


class AskedAgainTest(unittest.TestCase):
    """[0.2]: the same asked again is told alike, and nothing handed in is changed."""

    def test_asked_twice(self):
        valley = crossed()
        before = fields(valley)
        self.assertEqual(roads_and_keepers(valley, 5, "s", "t"), roads_and_keepers(valley, 5, "s", "t"))
        self.assertEqual(fields(valley), before)


if __name__ == "__main__":
    unittest.main()
