"""[11.1], [11.2] and beaconvale.reading."""

import unittest
from itertools import combinations, permutations

from beaconvale.errors import (
    BadFog, BadGround, BadHour, BadLine, BadName, BadNumber, OffGround, TooMany, Twice)
from beaconvale.reading import number_of, read_valley, show_valley
from vales import FAR, fields, refused, some_valleys, vale, webs

LINES = (
    "ground -9:0 0:-2 7:3", "hours -3 20", "delay 2", "haze 400", "beacon ash -9 0", "beacon elm 7 12",
    "fog -1 2 0 5 -4 6 1 -1", "fog 0 0 0 0 0 0 0 0")
GROUND, HOURS, DELAY, HAZE, ASH, ELM, FOG, LAST_FOG = range(8)


def text_of(*lines):
    return "\n".join(lines)


def changed(changes, lines=LINES):
    """The text of the lines, some of them changed to others (None: left out)."""
    rows = [changes.get(k, line) for k, line in enumerate(lines)]
    return text_of(*[row for row in rows if row is not None])


class NumberTest(unittest.TestCase):
    def test_numbers(self):
        for number in (0, 1, -1, 7, 9, 10, -10, 100, -907, 12345678901234567890, FAR, -FAR, 10 ** 59, 10 ** 60 - 1, 1 - 10 ** 60):
            self.assertEqual(number_of(str(number)), number)
            self.assertIs(type(number_of(str(number))), int)

    def test_how_many_figures(self):
        for sign in ("", "-"):
            for figure in "19":
                for size in (1, 2, 59, 60):
                    self.assertEqual(number_of(sign + figure * size), int(sign + figure * size))
                for size in (61, 62, 63):
                    self.assertIs(refused(number_of, sign + figure * size), BadNumber, size)

    def test_none(self):
        for text in (
                "-0", "00", "000", "01", "-01", "-00", "007", "+1", "+0", "-+1", "+-1", "--1", "1-", "1-2", "-", "--", "", " ",
                "1 ", " 1", "- 1", "1 2", "1\n", "\n1", "\n", "1_0", "_1", "1_", "1.0", "1.", ".1", "1e3", "0x1", "0b1", "0o7",
                "a", "1a", "a1", "O", "l", "None", "True", "1:2", ":", "1,000", "'1'", "(1)", "1/2", "~1", "0 0", "-1 ", " -1",
                "0" * 60, "0" + "1" * 59, "-" + "0" * 60):
            self.assertIs(refused(number_of, text), BadNumber, text)

    def test_every_sign_that_is_no_figure(self):
        for sign in [chr(code) for code in range(32, 127)] + ["\n"]:
            if sign not in "0123456789":
                for text in (sign, "1" + sign, "1" + sign + "1", sign + "0"):
                    self.assertIs(refused(number_of, text), BadNumber, text)
                if sign != "-":
                    self.assertIs(refused(number_of, sign + "1"), BadNumber, sign)


class ShowTest(unittest.TestCase):
    def test_with_a_haze_and_fogs(self):
        valley = vale(
            [("ash", -9, 0), ("elm", 7, 12)], [(-1, 2, 0, 5, -4, 6, 1, -1), (0,) * 8], 400, -3, 20, 2, ((-9, 0), (0, -2), (7, 3)))
        self.assertEqual(show_valley(valley), text_of(*LINES))

    def test_without_a_haze_or_fogs(self):
        valley = vale([("ash", 0, 5)], (), None, 0, 0, 0, ((-1, -1), (1, 1)))
        self.assertEqual(show_valley(valley), "ground -1:-1 1:1\nhours 0 0\ndelay 0\nbeacon ash 0 5")
        valley = vale([("ash", 0, 5)], [(0, 1, 2, 3, 4, 5, 6, 7)], None, 0, 0, 0, ((-1, -1), (1, 1)))
        self.assertEqual(
            show_valley(valley), "ground -1:-1 1:1\nhours 0 0\ndelay 0\nbeacon ash 0 5\nfog 0 1 2 3 4 5 6 7")
        valley = vale([("ash", 0, 5)], (), 0, 0, 0, 0, ((-1, -1), (1, 1)))
        self.assertEqual(show_valley(valley), "ground -1:-1 1:1\nhours 0 0\ndelay 0\nhaze 0\nbeacon ash 0 5")

    def test_beacons_and_fogs_in_their_order(self):
        valley = vale([("z", 0, 5), ("a", 1, 4), ("m", -2, 3)], [(9,) * 8, (1,) * 8, (5,) * 8])
        self.assertEqual(
            show_valley(valley).split("\n")[3:],
            ["beacon z 0 5", "beacon a 1 4", "beacon m -2 3"]
            + ["fog 9 9 9 9 9 9 9 9", "fog 1 1 1 1 1 1 1 1", "fog 5 5 5 5 5 5 5 5"])

    def test_great_numbers(self):
        fog = (-FAR, FAR, 0, 1, -FAR, FAR, -FAR, FAR)
        valley = vale([("a", 0, FAR)], [fog], FAR * 10 ** 10, -FAR, FAR, FAR, ((-FAR, -FAR), (FAR, FAR)))
        self.assertEqual(show_valley(valley), (
            f"ground -{FAR}:-{FAR} {FAR}:{FAR}\nhours -{FAR} {FAR}\ndelay {FAR}\nhaze {FAR}0000000000\n"
            f"beacon a 0 {FAR}\nfog -{FAR} {FAR} 0 1 -{FAR} {FAR} -{FAR} {FAR}"))

    def test_nothing_is_changed(self):
        valley = vale(fogs=[(1,) * 8])
        before = fields(valley)
        self.assertEqual(show_valley(valley), show_valley(valley))
        self.assertEqual(fields(valley), before)


class ReadTest(unittest.TestCase):
    def test_every_field(self):
        self.assertEqual(fields(read_valley(text_of(*LINES))), (
            [(-9, 0), (0, -2), (7, 3)], [("ash", -9, 0), ("elm", 7, 12)], [(-1, 2, 0, 5, -4, 6, 1, -1), (0,) * 8],
            400, -3, 20, 2))

    def test_kinds(self):
        valley = read_valley(text_of(*LINES))
        for each in valley.ground.corners + valley.beacons + valley.fogs:
            self.assertIs(type(each), tuple)

    def test_what_may_be_left_out(self):
        self.assertIsNone(read_valley(changed({HAZE: None})).haze)
        self.assertEqual(read_valley(changed({HAZE: "haze 0"})).haze, 0)
        self.assertEqual(read_valley(changed({FOG: None, LAST_FOG: None})).fogs, [])
        self.assertEqual(read_valley(changed({FOG: None, LAST_FOG: None, ELM: None})).beacons, [("ash", -9, 0)])
        self.assertEqual(fields(read_valley(changed({HAZE: None, FOG: None})))[2:4], ([(0,) * 8], None))

    def test_shown_and_read_and_shown(self):
        for valley in some_valleys(111, 60) + webs(112, 10) + [vale(), vale(haze=0)]:
            text = show_valley(valley)
            again = read_valley(text)
            self.assertEqual(fields(again), fields(valley))
            self.assertEqual(show_valley(again), text)

    def test_as_many_as_there_may_be(self):
        lines = ["ground " + " ".join(f"{k}:{-k}" for k in range(40)), "hours 0 1", "delay 0", "haze " + "9" * 60]
        lines += [f"beacon {'abcdefghijkl'[k] * 8} {k} 0" for k in range(12)] + ["fog 0 0 0 0 0 0 0 0"] * 12
        valley = read_valley(text_of(*lines))
        self.assertEqual((len(valley.ground.corners), len(valley.beacons), len(valley.fogs)), (40, 12, 12))
        self.assertEqual(show_valley(valley), text_of(*lines))

    def test_two_are_apart(self):
        text = text_of(*LINES)
        one, other = read_valley(text), read_valley(text)
        one.beacons.clear()
        one.fogs.clear()
        one.ground.corners.clear()
        self.assertEqual(show_valley(other), text)
        self.assertEqual(show_valley(read_valley(text)), text)


class BadLineTest(unittest.TestCase):
    def assert_refused(self, refusal, *texts):
        for text in texts:
            self.assertIs(refused(read_valley, text), refusal, text)

    def test_a_line_left_out(self):
        for k in (GROUND, HOURS, DELAY):
            self.assert_refused(BadLine, changed({k: None}))
        self.assert_refused(BadLine, "", LINES[GROUND], text_of(*LINES[:HOURS + 1]), text_of(*LINES[1:]), text_of(*LINES[3:]))

    def test_a_line_twice(self):
        for k in (GROUND, HOURS, DELAY, HAZE):
            self.assert_refused(BadLine, changed({k: text_of(LINES[k], LINES[k])}))
            self.assert_refused(BadLine, text_of(*LINES, LINES[k]))

    def test_another_order(self):
        due = 0
        for order in permutations(range(5)):
            lines = [LINES[(GROUND, HOURS, DELAY, HAZE, ASH)[k]] for k in order]
            if order != tuple(range(5)):
                self.assert_refused(BadLine, text_of(*lines))
                due += 1
        self.assertEqual(due, 119)
        self.assert_refused(
            BadLine, changed({ELM: LINES[FOG], FOG: LINES[ELM]}), changed({ASH: LINES[LAST_FOG], LAST_FOG: LINES[ASH]}),
            changed({HAZE: LINES[ASH], ASH: LINES[HAZE]}), changed({HAZE: LINES[FOG], FOG: LINES[HAZE]}),
            changed({HAZE: None, LAST_FOG: LINES[HAZE]}))

    def test_lines_of_no_kind(self):
        for line in (
                "grounds 1:1", "", "Ground 0:0", "hour 1 2", "fogs 0", "# remark", "0", "beacons ash 0 0", "HAZE 4", ":", "end"):
            for k in range(len(LINES)):
                self.assert_refused(BadLine, changed({k: text_of(line, LINES[k])}), changed({k: text_of(LINES[k], line)}))

    def test_too_many_or_too_few_words(self):
        for k in range(1, len(LINES)):
            words = LINES[k].split(" ")
            for row in (words[:-1], words[:1], words + ["0"], words + words[1:], words[:1] + words[2:] + words[1:2] * 2):
                self.assert_refused(BadLine, changed({k: " ".join(row)}))
        self.assert_refused(BadLine, changed({GROUND: "ground"}))

    def test_two_blanks_and_a_blank_at_an_end(self):
        for k, line in enumerate(LINES):
            # Behind these, as many words as are due, one of them empty.
            words = line.split(" ")
            for bad_line in (
                    line.replace(" ", "  ", 1), "  ".join(line.rsplit(" ", 1)), line + " ", line + "  ", " " + line,
                    " ".join(words[:-1] + [""]), " ".join(words[:1] + [""] + words[2:])):
                self.assert_refused(BadLine, changed({k: bad_line}))
        self.assert_refused(BadLine, changed({GROUND: "ground "}), changed({GROUND: "ground  "}), changed({ASH: "beacon  0 0"}))

    def test_an_empty_line_and_a_line_feed_at_an_end(self):
        text = text_of(*LINES)
        self.assert_refused(BadLine, text + "\n", "\n" + text, text + "\n\n", "\n", "\n\n", " ", text + "\n ")
        for k in range(1, len(LINES)):
            self.assert_refused(BadLine, text_of(*LINES[:k], "", *LINES[k:]))

    def test_corners(self):
        for corner in ("0", "0:0:0", "::", ":0:", "0;0", "00", "a", "1:2:", ":1:2", ":::", "(0,0)"):
            for ground in (f"ground {corner}", f"ground -9:0 {corner} 7:3", f"ground {corner} 7:3", f"ground -9:0 7:3 {corner}"):
                self.assert_refused(BadLine, changed({GROUND: ground}))

    def test_the_whole_in_one_line(self):
        self.assert_refused(BadLine, " ".join(LINES))

    def test_no_beacon_is_no_fault_of_the_lines(self):
        self.assert_refused(TooMany, changed({ASH: None, ELM: None}), text_of(*LINES[:3]), text_of(*LINES[:4]))


class BadNumberTest(unittest.TestCase):
    def test_each_number(self):
        for bad in ("-0", "00", "+1", "-", "1_0", "x", "1" * 61, "0x1", "1.0", "None", "01", "--1"):
            for k, line in enumerate(LINES):
                words = line.split(" ")
                for place in range(1, len(words)):
                    row = list(words)
                    if k == GROUND:
                        x, z = row[place].split(":")
                        rows = [row[:place] + [f"{bad}:{z}"] + row[place + 1:], row[:place] + [f"{x}:{bad}"] + row[place + 1:]]
                    elif k in (ASH, ELM) and place == 1:
                        continue
                    else:
                        rows = [row[:place] + [bad] + row[place + 1:]]
                    for bad_row in rows:
                        self.assertIs(refused(read_valley, changed({k: " ".join(bad_row)})), BadNumber, bad_row)

    def test_an_empty_place_or_height(self):
        for corner in (":", ":0", "0:", "-:0", "0:-"):
            for corners in (f"{corner}", f"-9:0 {corner} 7:3", f"{corner} -9:0 7:3", f"-9:0 7:3 {corner}"):
                self.assertIs(refused(read_valley, changed({GROUND: "ground " + corners})), BadNumber, corners)

    def test_names_and_numbers_in_one_anothers_places(self):
        self.assertIs(refused(read_valley, changed({ASH: "beacon 0 ash 0"})), BadNumber)
        self.assertIs(refused(read_valley, changed({ASH: "beacon 0 0 ash"})), BadNumber)


class OrderTest(unittest.TestCase):
    """The first class that is due anywhere in the text is that of the refusal."""

    ORDER = (BadLine, BadNumber, BadGround, TooMany, BadName, Twice, OffGround, BadFog, BadHour)

    def lines_with(self, chosen, late, more):
        ground = "ground -9:0 -9:1 7:3" if BadGround in chosen else LINES[GROUND]
        hours = "hours 5 4" if BadHour in chosen and late == "hours" else LINES[HOURS]
        delay = "delay -1" if BadHour in chosen and late == "delay" else LINES[DELAY]
        haze = "haze -1" if BadHour in chosen and late == "haze" else LINES[HAZE]
        beacons, fogs = [LINES[ASH], LINES[ELM]], [LINES[FOG]]
        if BadName in chosen:
            beacons.append("beacon Oak 0 5")
        if Twice in chosen:
            beacons.append("beacon ash 7 12")
        if OffGround in chosen:
            beacons.insert(0, "beacon fir 0 -3")
        if BadFog in chosen:
            fogs.append("fog 1 0 0 0 0 0 0 0")
        if TooMany in chosen and more == "beacons":
            beacons.extend(f"beacon {name} 0 5" for name in "abcdefghijk")
        if TooMany in chosen and more == "fogs":
            fogs.extend([LINES[LAST_FOG]] * 12)
        if BadNumber in chosen:
            fogs.append("fog 0 0 0 0 0 0 0 00")
        if BadLine in chosen:
            fogs.append("fog 0 0 0 0 0 0 0")
        return [ground, hours, delay, haze] + beacons + fogs

    def test_several_at_once(self):
        for size in range(len(self.ORDER) + 1):
            for chosen in combinations(self.ORDER, size):
                for late, more in (("hours", "beacons"), ("delay", "fogs"), ("haze", "beacons")):
                    text = text_of(*self.lines_with(chosen, late, more))
                    self.assertIs(refused(read_valley, text), chosen[0] if chosen else None, text)

    def test_bad_line_behind_a_bad_number(self):
        for k in range(len(LINES)):
            self.assertIs(refused(read_valley, changed({GROUND: "ground 00:0 x:1", k: LINES[k] + " "})), BadLine)
        self.assertIs(refused(read_valley, changed({GROUND: "ground 0:0 00:1", LAST_FOG: LINES[LAST_FOG] + "\n"})), BadLine)
        self.assertIs(refused(read_valley, changed({DELAY: "delay x", HAZE: "haze"})), BadLine)

    def test_bad_number_behind_bad_ground(self):
        for ground in ("ground 0:0", "ground 1:0 0:0", "ground 0:0 0:0"):
            self.assertIs(refused(read_valley, changed({GROUND: ground, LAST_FOG: "fog 0 0 0 0 0 0 0 -0"})), BadNumber)
            self.assertIs(refused(read_valley, changed({GROUND: ground})), BadGround)

    def test_ground_of_one_corner_and_of_too_many(self):
        for count in (1, 41, 45):
            ground = "ground " + " ".join(f"{k}:0" for k in range(count))
            self.assertIs(refused(read_valley, changed({GROUND: ground})), BadGround)
            self.assertIs(refused(read_valley, changed({GROUND: ground, ASH: None, ELM: None})), BadGround)

    def test_as_valley_refuses(self):
        rows = (
            (BadName, {ASH: "beacon Ash 0 5"}), (BadName, {ASH: "beacon abcdefghi 0 5"}), (BadName, {ASH: "beacon a1 0 5"}),
            (BadName, {ELM: "beacon 1 2 3"}), (BadName, {ELM: "beacon a:b 0 5"}), (Twice, {ASH: LINES[ELM]}),
            (OffGround, {ELM: "beacon elm 7 2"}),
            (OffGround, {ELM: "beacon elm 8 9"}), (BadFog, {FOG: "fog 0 0 1 0 0 0 0 0"}), (BadFog, {FOG: "fog 0 0 0 0 1 0 0 0"}),
            (BadHour, {HOURS: "hours 1 0"}), (BadHour, {DELAY: "delay -1"}), (BadHour, {HAZE: "haze -1"}))
        for refusal, changes in rows:
            self.assertIs(refused(read_valley, changed(changes)), refusal, changes)


if __name__ == "__main__":
    unittest.main()
