"""A valley: its ground, its beacons, its fogs and its hours, and which beacons see one another when."""

from beaconvale.errors import BadFog, BadHour, BadName, NoBeacon, OffGround, TooMany, Twice
from beaconvale.fogs import box_at, foggy_all, is_fog, meets
from beaconvale.ground import Ground, hinder, stands
from beaconvale.spans import without

LETTERS = "abcdefghijklmnopqrstuvwxyz"
MOST_LETTERS = 8
MOST_BEACONS = 12
MOST_FOGS = 12


def is_name(text):
    if len(text) < 1 or len(text) > MOST_LETTERS:
        return False
    return all([sign in LETTERS for sign in text])


def refuse_bad_numbers(beacons, fogs):
    if len(beacons) < 1 or len(beacons) > MOST_BEACONS:
        raise TooMany("a valley has 1 to 12 beacons")
    if len(fogs) > MOST_FOGS:
        raise TooMany("a valley has at most 12 fogs")


def refuse_bad_names(names):
    if not all([is_name(name) for name in names]):
        raise BadName("a name has 1 to 8 small letters")
    if len(set(names)) < len(names):
        raise Twice("no two beacons have one name")


def refuse_bad_tops(ground, beacons):
    if not all([stands(ground, (x, z)) for name, x, z in beacons]):
        raise OffGround("a top does not stand on the ground")


def refuse_bad_fogs(fogs):
    if not all([is_fog(fog) for fog in fogs]):
        raise BadFog("a fog is none")


def refuse_bad_hours(haze, first, last, delay):
    if first > last:
        raise BadHour("the first hour is above the last one")
    if delay < 0:
        raise BadHour("the delay is below nought")
    if haze is not None and haze < 0:
        raise BadHour("the haze is below nought")


class Valley:
    def __init__(self, ground, beacons, fogs, haze, first, last, delay):
        refuse_bad_numbers(beacons, fogs)
        refuse_bad_names([beacon[0] for beacon in beacons])
        refuse_bad_tops(ground, beacons)
        refuse_bad_fogs(fogs)
        refuse_bad_hours(haze, first, last, delay)
        # Its own ground too: that which is handed in is not kept.
        self.ground = Ground(ground.corners)
        self.beacons = list(beacons)
        self.fogs = list(fogs)
        self.haze = haze
        self.first = first
        self.last = last
        self.delay = delay


def names_of(valley):
    return [beacon[0] for beacon in valley.beacons]


def pairs_of(valley):
    names = names_of(valley)
    found = []
    for k, name in enumerate(names):
        for other in names[k + 1:]:
            found.append((name, other))
    return found


def spot_of(valley, name):
    for beacon in valley.beacons:
        if beacon[0] == name:
            return (beacon[1], beacon[2])
    raise NoBeacon("no beacon has this name")


def refuse_no_beacon(valley, name):
    if name not in names_of(valley):
        raise NoBeacon("no beacon has this name")


def refuse_no_hour(valley, hour):
    if hour < valley.first or hour > valley.last:
        raise BadHour("the hour is not one of the valley's")


def square_between(one, other):
    run = other[0] - one[0]
    climb = other[1] - one[1]
    return run * run + climb * climb


def hidden_always(valley, one, other):
    # Ground and haze stay, so what they hide is hidden at every hour.
    corner = hinder(valley.ground, one, other)
    if corner is not None:
        return ("ground", corner)
    square = square_between(one, other)
    if valley.haze is not None and square > valley.haze:
        return ("haze", square)
    return None


def sight(valley, name, other):
    one_top = spot_of(valley, name)
    other_top = spot_of(valley, other)
    hours = ((valley.first, valley.last),)
    # A beacon sees itself even in a fog.
    if name == other:
        return hours
    if hidden_always(valley, one_top, other_top) is not None:
        return ()
    return without(hours, foggy_all(valley.fogs, one_top, other_top))


def hidden(valley, name, other, hour):
    one_top = spot_of(valley, name)
    other_top = spot_of(valley, other)
    refuse_no_hour(valley, hour)
    if name == other:
        return None
    found = hidden_always(valley, one_top, other_top)
    if found is not None:
        return found
    for k, fog in enumerate(valley.fogs):
        box = box_at(fog, hour)
        if box is not None and meets(box, one_top, other_top):
            return ("fog", k)
    return None


def web_at(valley, hour):
    refuse_no_hour(valley, hour)
    return [pair for pair in pairs_of(valley) if hidden(valley, pair[0], pair[1], hour) is None]


def company_without(valley, hour, name, barred):
    found = [name]
    k = 0
    while k < len(found):
        for other in names_of(valley):
            if other not in found and other not in barred and hidden(valley, found[k], other, hour) is None:
                found.append(other)
        k += 1
    return [each for each in names_of(valley) if each in found]


def company(valley, hour, name):
    refuse_no_beacon(valley, name)
    refuse_no_hour(valley, hour)
    return company_without(valley, hour, name, [])
