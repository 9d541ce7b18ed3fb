"""Valleys for the tests, and a slow reckoning of them, hour by hour, by the document's words alone.

The slow reckoning reads an object's fields and asks nothing else of the program.
"""

import random
from fractions import Fraction

from beaconvale.errors import ValeError
from beaconvale.ground import Ground
from beaconvale.valley import Valley

FAR = 10 ** 49 + 9      # 50 figures
FLAT = ((-100, 0), (100, 0))
ROW = (("ash", 0, 5), ("birch", 10, 5), ("cedar", 20, 5))


def vale(beacons=ROW, fogs=(), haze=None, first=0, last=20, delay=1, corners=FLAT):
    return Valley(Ground(list(corners)), list(beacons), list(fogs), haze, first, last, delay)


def row_of_three(**given):
    """Beacons a, b, c in a row, of which neighbours alone see one another, at hours that fogs leave."""
    given = dict(dict(haze=100, first=0, last=20, delay=2), **given)
    return vale([("a", 0, 5), ("b", 10, 5), ("c", 20, 5)], **given)


def wall(x, first, last):
    """A fog that hides, from first to last, whatever lies on either side of a place."""
    return (x, x, -1000, 1000, first, last, 0, 0)


def walls(x, *spans):
    return [wall(x, first, last) for first, last in spans]


def fields(valley):
    return (
        list(valley.ground.corners), list(valley.beacons), list(valley.fogs), valley.haze, valley.first, valley.last,
        valley.delay)


def refused(call, *given):
    """The class of the refusal, None where there is none."""
    try:
        call(*given)
    except ValeError as refusal:
        return type(refusal)
    return None


def spans_of(hours):
    found = []
    for hour in sorted(hours):
        if found and found[-1][1] == hour - 1:
            found[-1][1] = hour
        else:
            found.append([hour, hour])
    return tuple(tuple(pair) for pair in found)


def touches(box, one, other):
    """Whether some point of the line between the two, told by its share of the way, is in the box."""
    least, most = Fraction(0), Fraction(1)
    for start, end, low, high in ((one[0], other[0], box[0], box[1]), (one[1], other[1], box[2], box[3])):
        if start == end:
            if not low <= start <= high:
                return False
        else:
            shares = sorted((Fraction(low - start, end - start), Fraction(high - start, end - start)))
            least, most = max(least, shares[0]), min(most, shares[1])
    return least <= most


def slow_names(valley):
    return [beacon[0] for beacon in valley.beacons]


def slow_hidden(valley, name, other, hour):
    if name == other:
        return None
    tops = {beacon[0]: beacon[1:] for beacon in valley.beacons}
    one, two = tops[name], tops[other]
    for k, (x, z) in enumerate(valley.ground.corners):
        if min(one[0], two[0]) < x < max(one[0], two[0]):
            if z > one[1] + Fraction(two[1] - one[1], two[0] - one[0]) * (x - one[0]):
                return ("ground", k)
    square = (one[0] - two[0]) ** 2 + (one[1] - two[1]) ** 2
    if valley.haze is not None and square > valley.haze:
        return ("haze", square)
    for k, (left, right, low, high, first, last, drift, rise) in enumerate(valley.fogs):
        along, upwards = drift * (hour - first), rise * (hour - first)
        box = (left + along, right + along, low + upwards, high + upwards)
        if first <= hour <= last and touches(box, one, two):
            return ("fog", k)
    return None


def slow_sees(valley, name, other, hour):
    return valley.first <= hour <= valley.last and slow_hidden(valley, name, other, hour) is None


def slow_table(valley):
    """At (name, other): the hours at which the two see one another."""
    hours = range(valley.first, valley.last + 1)
    table = {}
    for name in slow_names(valley):
        for other in slow_names(valley):
            table[name, other] = {hour for hour in hours if slow_sees(valley, name, other, hour)}
    return table


def slow_earliest(valley, table, name, hour):
    """Lights beacons hour by hour."""
    lit = {name: hour}
    for now in range(hour, valley.last + 1):
        changed = True
        while changed:
            changed = False
            for one in list(lit):
                for other in slow_names(valley):
                    due = now + valley.delay
                    if lit[one] <= now and now in table[one, other] and lit.get(other, due + 1) > due:
                        lit[other] = due
                        changed = True
    return [lit.get(each) for each in slow_names(valley)]


def slow_reach(first, values):
    """The reach that leads first, first + 1 and so on to the values: each piece takes as many hours as it can."""
    pieces = []
    start = 0
    while start < len(values):
        best = (1, 0)
        for step in (0, 1):
            size = 1
            while start + size < len(values) and values[start + size] == values[start] + step * size:
                size += 1
            if size > best[0]:
                best = (size, step)
        pieces.append((first + start, first + start + best[0] - 1, values[start], best[1]))
        start += best[0]
    return tuple(pieces)


def some_ground(rng):
    places = sorted(rng.sample(range(-20, 21), rng.randint(2, 6)))
    return [(x, rng.randint(-6, 6)) for x in places]


def least_height(corners, x):
    for (left, low), (right, high) in zip(corners, corners[1:]):
        if left <= x <= right:
            return -((-low * (right - left) - (high - low) * (x - left)) // (right - left))
    raise AssertionError(x)


def some_fog(rng, first, last):
    left, low = rng.randint(-25, 20), rng.randint(-8, 12)
    begin = rng.randint(first - 3, last + 1)
    return (
        left, left + rng.randint(0, 8), low, low + rng.randint(0, 8), begin, begin + rng.randint(0, 7),
        rng.randint(-3, 3), rng.randint(-2, 2))


def some_valley(rng, most=5):
    corners = some_ground(rng)
    beacons = []
    for k in range(rng.randint(1, most)):
        x = rng.randint(corners[0][0], corners[-1][0])
        beacons.append(("qponmlkji"[k], x, least_height(corners, x) + rng.randint(0, 9)))
    first = rng.randint(-9, 9)
    last = first + rng.choice((0, 3, 9, 14))
    fogs = [some_fog(rng, first, last) for k in range(rng.randint(0, 6))]
    haze = rng.choice((None, None, 60, 200, 500))
    return Valley(Ground(corners), beacons, fogs, haze, first, last, rng.choice((0, 0, 1, 2, 5)))


def some_valleys(seed, count, most=5):
    rng = random.Random(seed)
    return [some_valley(rng, most) for k in range(count)]


def webbed(rng, count, last=13):
    """Beacons on flat ground, whose sights come and go by narrow fogs between them."""
    beacons = [("abcdefghi"[k], 10 * k, 5 + rng.randint(0, 3)) for k in range(count)]
    fogs = []
    while len(fogs) < 12:
        begin = rng.randint(0, last)
        place = rng.randint(0, 10 * count - 10)
        height = rng.randint(3, 8)
        fogs.append((
            place, place + rng.randint(0, 6), height, height + rng.randint(0, 2), begin, begin + rng.randint(0, 5),
            rng.randint(-4, 4), 0))
    return vale(beacons, fogs, rng.choice((None, 110, 410, 950)), 0, last, rng.choice((0, 1, 3)))


def webs(seed, count, most=6):
    rng = random.Random(seed)
    return [webbed(rng, rng.randint(3, most)) for k in range(count)]
