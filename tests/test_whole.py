"""[0.1] to [0.5], and the head of the interface: what holds over the whole program."""

import copy
import importlib
import inspect
import unittest
from itertools import combinations

from beaconvale.apart import keeps_apart, lone_keepers, road_stands, roads_and_keepers
from beaconvale.errors import Beside
from beaconvale.fogs import is_fog
from beaconvale.ground import Ground, rope
from beaconvale.hearing import first_unheard, heard_by, hearing, hearings
from beaconvale.reaches import is_reach
from beaconvale.reading import read_valley, show_valley
from beaconvale.report import report, sight_line
from beaconvale.seen import seen, watched
from beaconvale.spans import tidy
from beaconvale.tidings import bounds_hold, earliest, latest, way_holds, way_to
from beaconvale.valley import Valley, company, hidden, names_of, sight, spot_of, web_at
from beaconvale.watch import Watch
from vales import fields, refused, row_of_three, some_valleys, vale, wall, walls, webs

INTERFACE = {
    "errors": (
        "ValeError BadGround OffGround BadFog BadName Twice TooMany BadHour NoBeacon Beside BadLine BadNumber NoFog "
        "NothingBack"),
    "lines": "fraction/2 less/2 plus/2 minus/2 times/2 up/1 down/1 side_of/3 height_on/3 crossing/4",
    "ground": "Ground/1 ground_at/2 stands/2 clear/3 hinder/3 least_top/3 rope/3",
    "seen": "sees_place/3 seen/2 watched/2",
    "stretches": "joined/2 shared/2 holds_place/2 length/1",
    "spans": "tidy/1 both/2 either/2 without/2 holds/2 many/1 first_from/2 last_to/2",
    "fogs": "is_fog/1 box_at/2 meets/3 foggy/3 foggy_all/3",
    "valley": "is_name/1 Valley/7 names_of/1 spot_of/2 sight/3 hidden/4 web_at/2 company/3",
    "reaches": "is_reach/1 reach_of/3 staying/2 hour_at/2 earlier/2 behind/2 turned/2 unlike_at/2",
    "tidings": "earliest/3 way_to/4 way_holds/4 bounds_hold/4 latest/3",
    "hearing": "hearing/3 hearings/1 heard_by/4 first_unheard/3",
    "apart": "roads_and_keepers/4 road_stands/5 keeps_apart/5 lone_keepers/4",
    "reading": "number_of/1 show_valley/1 read_valley/1",
    "watch": "Watch/1",
    "report": "sight_line/3 report/3",
}
DEEDS = "build/3 raze/1 raise_to/2 foretell/1 lift/1 back/0 valley_now/0 hour_of/3"


def answers(valley):
    """What the program tells of a valley, told by names and hours alone."""
    names = names_of(valley)
    hours = sorted({valley.first, (valley.first + valley.last) // 2, valley.last})
    told = {"names": names, "hearings": hearings(valley)}
    for name in names:
        for other in names:
            told["sight", name, other] = sight(valley, name, other)
            told["line", name, other] = sight_line(valley, name, other)
            told["unheard", name, other] = first_unheard(valley, name, other)
        for hour in hours:
            told["company", name, hour - valley.first] = company(valley, hour, name)
            told["earliest", name, hour - valley.first] = earliest(valley, name, hour)
            told["heard", name, hour - valley.first] = heard_by(valley, name, hour, valley.last)
            told["report", name, hour - valley.first] = report(valley, name, hour)
        told["latest", name] = latest(valley, name, valley.last)
    for hour in hours:
        told["web", hour - valley.first] = web_at(valley, hour)
        for name, other in combinations(names, 2):
            found = hidden(valley, name, other, hour)
            # The number of a corner is told by the ground's own order, which a valley turned about has not.
            told["hidden", name, other, hour - valley.first] = "ground" if found and found[0] == "ground" else found
            if found is not None:
                told["lone", name, other, hour - valley.first] = lone_keepers(valley, hour, name, other)
                told["many", name, other, hour - valley.first] = len(roads_and_keepers(valley, hour, name, other)[0])
    return told


def changed(valley, spot, fog, hours=0):
    """The valley with every spot and fog changed, and so many hours later."""
    corners, beacons, fogs, haze, first, last, delay = fields(valley)
    return Valley(
        Ground(sorted(spot(corner) for corner in corners)), [(name,) + spot((x, z)) for name, x, z in beacons],
        [fog(each) for each in fogs], haze, first + hours, last + hours, delay)


def turned_about(valley):
    return changed(
        valley, lambda spot: (-spot[0], spot[1]), lambda fog: (-fog[1], -fog[0]) + fog[2:6] + (-fog[6], fog[7]))


def moved(valley, along, upwards):
    return changed(
        valley, lambda spot: (spot[0] + along, spot[1] + upwards),
        lambda fog: (fog[0] + along, fog[1] + along, fog[2] + upwards, fog[3] + upwards) + fog[4:])


def moved_later(valley, hours):
    return changed(
        valley, lambda spot: spot, lambda fog: fog[:4] + (fog[4] + hours, fog[5] + hours) + fog[6:], hours)


def later(hour, hours):
    return None if hour is None else hour + hours


def lists_in(told):
    found = [told] if isinstance(told, list) else []
    if isinstance(told, (list, tuple)):
        for each in told:
            found.extend(lists_in(each))
    return found


class InterfaceTest(unittest.TestCase):
    def test_every_name_is_there(self):
        for module, row in INTERFACE.items():
            held = importlib.import_module("beaconvale." + module)
            for each in row.split(" "):
                name, slash, count = each.partition("/")
                self.assertTrue(callable(getattr(held, name)), (module, name))
                if slash:
                    inspect.signature(getattr(held, name)).bind(*range(int(count)))

    def test_every_deed_is_there(self):
        for each in DEEDS.split(" "):
            name, slash, count = each.partition("/")
            inspect.signature(getattr(Watch(vale()), name)).bind(*range(int(count)))


class ToldTest(unittest.TestCase):
    """[0.2]: what is told is the asker's own, and the same asked again is told alike."""

    def asks(self):
        valley = row_of_three(fogs=walls(5, (2, 6)) + walls(15, (3, 9)), delay=1)
        ground = Ground([(0, 0), (3, 4), (6, 1), (9, 4), (12, 0)])
        watch = Watch(valley)
        calls = (
            lambda: rope(ground, (0, 0), (12, 0)), lambda: seen(ground, (0, 5)), lambda: names_of(valley),
            lambda: web_at(valley, 1), lambda: company(valley, 1, "a"), lambda: sight(valley, "a", "b"),
            lambda: hidden(valley, "a", "b", 3), lambda: earliest(valley, "a", 2), lambda: way_to(valley, "a", 2, "c"),
            lambda: latest(valley, "c", 11), lambda: hearing(valley, "a", "c"), lambda: hearings(valley),
            lambda: heard_by(valley, "a", 2, 11), lambda: roads_and_keepers(valley, 1, "a", "c"),
            lambda: lone_keepers(valley, 1, "a", "c"), lambda: report(valley, "a", 2), lambda: fields(watch.valley_now()))
        return valley, ground, calls

    def test_asked_again_behind_a_change_of_what_was_told(self):
        valley, ground, calls = self.asks()
        before = (fields(valley), list(ground.corners))
        for k, call in enumerate(calls):
            told = call()
            plain = copy.deepcopy(told)
            lists = lists_in(told)
            self.assertEqual(len({id(each) for each in lists}), len(lists), k)
            other = call()
            self.assertFalse({id(each) for each in lists} & {id(each) for each in lists_in(other)}, k)
            for each in lists:
                each.append("spoilt")
                each[0] = None
            self.assertEqual(other, plain, k)
            self.assertEqual(call(), plain, k)
        self.assertEqual((fields(valley), list(ground.corners)), before)

    def test_asked_in_another_order(self):
        valley, ground, calls = self.asks()
        told = [call() for call in calls]
        self.assertEqual([call() for call in reversed(calls)], told[::-1])

    def test_what_is_handed_in_is_not_kept(self):
        pairs = [(3, 4), (0, 1)]
        spots = [(0, 5), (12, 0)]
        way, bounds, road, keepers = [("a", 1, 1)], [1, 2, 3], ["a", "b", "c"], ["b"]
        valley, ground, calls = self.asks()
        told = (tidy(pairs), watched(ground, spots))
        asked = (way_holds(valley, "a", 1, way), bounds_hold(valley, "a", 1, bounds))
        stands = (road_stands(valley, 1, "a", "c", road), keeps_apart(valley, 1, "a", "c", keepers))
        self.assertEqual((pairs, spots), ([(3, 4), (0, 1)], [(0, 5), (12, 0)]))
        self.assertEqual((way, bounds, road, keepers), ([("a", 1, 1)], [1, 2, 3], ["a", "b", "c"], ["b"]))
        plain = copy.deepcopy(told)
        for each in (pairs, spots, way, bounds, road, keepers):
            each.clear()
        self.assertEqual(told, plain)
        self.assertEqual((asked, stands), ((True, True), (True, True)))
        self.assertEqual((way_holds(valley, "a", 1, way), bounds_hold(valley, "a", 1, bounds)), (False, False))

    def test_two_valleys_do_not_meddle(self):
        one = row_of_three(delay=1)
        other = row_of_three(delay=5, fogs=walls(5, (0, 9)))
        for turn in range(2):
            self.assertEqual(earliest(one, "a", 2), [2, 3, 4])
            self.assertEqual(earliest(other, "a", 2), [2, 15, 20])
            self.assertEqual(sight(one, "a", "b"), ((0, 20),))
            self.assertEqual(sight(other, "a", "b"), ((10, 20),))


class KindsTest(unittest.TestCase):
    """[0.3] to [0.5]: what is a tuple, what is a list, and True and False are no whole numbers."""

    def assert_plain(self, told):
        self.assertIn(type(told), (int, str, tuple, list, type(None)))
        if isinstance(told, (tuple, list)):
            for each in told:
                self.assert_plain(each)

    def test_kinds(self):
        for valley in some_valleys(141, 12):
            for told in answers(valley).values():
                self.assert_plain(told)

    def test_true_and_false(self):
        self.assertIs(is_fog((False, True, False, True, False, True, False, True)), False)
        self.assertIs(is_reach(((False, True, False, True),)), False)
        self.assertIs(is_fog((0, 1, 0, 1, 0, 1, 0, 1)), True)
        self.assertIs(is_reach(((0, 1, 0, 1),)), True)

    def test_spans_ascend_and_lie_apart(self):
        for valley in some_valleys(142, 60):
            for name in names_of(valley):
                for other in names_of(valley):
                    spans = sight(valley, name, other)
                    for low, high in spans:
                        self.assertTrue(valley.first <= low <= high <= valley.last)
                    for ahead, span in zip(spans, spans[1:]):
                        self.assertGreaterEqual(span[0], ahead[1] + 2)


class AlikeTest(unittest.TestCase):
    def valleys(self, seed):
        return some_valleys(seed, 10) + webs(seed + 1, 3, 5)

    def test_read_from_its_text(self):
        for valley in self.valleys(143):
            again = read_valley(show_valley(valley))
            self.assertEqual(answers(again), answers(valley))
            for name in names_of(valley):
                self.assertEqual(spot_of(again, name), spot_of(valley, name))

    def test_turned_about(self):
        for valley in self.valleys(145):
            self.assertEqual(answers(turned_about(valley)), answers(valley), fields(valley))

    def test_moved(self):
        for valley in self.valleys(147):
            for along, upwards in ((5, 0), (-1000, 7), (10 ** 40, -10 ** 40)):
                self.assertEqual(answers(moved(valley, along, upwards)), answers(valley), fields(valley))

    def test_moved_to_later_hours(self):
        for valley in self.valleys(149):
            for hours in (1, -30, 10 ** 45):
                told, plain = answers(moved_later(valley, hours)), answers(valley)
                for name in names_of(valley):
                    for other in names_of(valley):
                        self.assertEqual(
                            told["sight", name, other],
                            tuple((low + hours, high + hours) for low, high in plain["sight", name, other]))
                        self.assertEqual(told["unheard", name, other], later(plain["unheard", name, other], hours))
                    self.assertEqual(told["latest", name], [later(hour, hours) for hour in plain["latest", name]])
                for row, plain_row in zip(told["hearings"], plain["hearings"]):
                    for reach, plain_reach in zip(row, plain_row):
                        self.assertEqual(
                            reach, tuple((low + hours, high + hours, to + hours, step) for low, high, to, step in plain_reach))
                middle = moved_later(valley, hours)
                for hour in range(valley.first, valley.last + 1, 4):
                    self.assertEqual(web_at(middle, hour + hours), web_at(valley, hour))
                    for name in names_of(valley):
                        self.assertEqual(company(middle, hour + hours, name), company(valley, hour, name))
                        self.assertEqual(
                            earliest(middle, name, hour + hours), [later(lit, hours) for lit in earliest(valley, name, hour)])

    def test_beacons_in_another_order(self):
        for valley in self.valleys(151):
            corners, beacons, fogs, haze, first, last, delay = fields(valley)
            other = Valley(Ground(corners), beacons[::-1], fogs[::-1], haze, first, last, delay)
            for name in names_of(valley):
                self.assertEqual(earliest(other, name, first), earliest(valley, name, first)[::-1])
                self.assertEqual(company(other, last, name), company(valley, last, name)[::-1])
            self.assertEqual(hearings(other), [row[::-1] for row in hearings(valley)][::-1])

    def test_a_watch_of_deeds_and_a_valley_made_at_once(self):
        watch = Watch(vale([("a", 0, 5)], haze=100, delay=2))
        watch.build("b", 10, 5)
        watch.build("c", 20, 5)
        watch.foretell(wall(5, 3, 8))
        self.assertEqual(answers(watch.valley_now()), answers(row_of_three(fogs=[wall(5, 3, 8)])))


class PapersTest(unittest.TestCase):
    """[0.1]: what is told comes with papers that can be looked at by themselves."""

    def test_each_paper_holds(self):
        for valley in some_valleys(153, 20) + webs(154, 6):
            hour = (valley.first + valley.last) // 2
            for name in names_of(valley):
                lit_hours = earliest(valley, name, hour)
                self.assertIs(bounds_hold(valley, name, hour, lit_hours), True)
                for goal, lit in zip(names_of(valley), lit_hours):
                    way = way_to(valley, name, hour, goal)
                    self.assertEqual(None if way is None else way[-1][2], lit)
                    self.assertTrue(way is None or way_holds(valley, name, hour, way))
                    if refused(roads_and_keepers, valley, hour, name, goal) is not Beside:
                        roads, keepers = roads_and_keepers(valley, hour, name, goal)
                        self.assertEqual(len(roads), len(keepers))
                        self.assertTrue(all(road_stands(valley, hour, name, goal, road) for road in roads))
                        self.assertIs(keeps_apart(valley, hour, name, goal, keepers), True)


if __name__ == "__main__":
    unittest.main()
