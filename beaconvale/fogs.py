"""Fogs: boxes that lie over the valley at told hours, and move by one step each hour."""

from beaconvale.kinds import is_whole
from beaconvale.spans import tidy

# Where the numbers of a fog stand in its tuple; a box has the first four of them.
LEFT = 0
RIGHT = 1
LOW = 2
HIGH = 3
FIRST = 4
LAST = 5
DRIFT = 6
RISE = 7
NUMBERS = 8


def is_fog(value):
    if not isinstance(value, tuple) or len(value) != NUMBERS:
        return False
    if not all([is_whole(number) for number in value]):
        return False
    return value[LEFT] <= value[RIGHT] and value[LOW] <= value[HIGH] and value[FIRST] <= value[LAST]


def moved(fog, hours):
    along = fog[DRIFT] * hours
    upwards = fog[RISE] * hours
    return (fog[LEFT] + along, fog[RIGHT] + along, fog[LOW] + upwards, fog[HIGH] + upwards)


def box_at(fog, hour):
    if hour < fog[FIRST] or hour > fog[LAST]:
        return None
    return moved(fog, hour - fog[FIRST])


def margins(box, one, other):
    # The box and the line between the two are apart just where they are so along the valley, upwards,
    # or across the line; then, and only then, one of these numbers is below nought.
    run = other[0] - one[0]
    climb = other[1] - one[1]
    corners = [(box[LEFT], box[LOW]), (box[LEFT], box[HIGH]), (box[RIGHT], box[LOW]), (box[RIGHT], box[HIGH])]
    across = [run * (z - one[1]) - climb * (x - one[0]) for x, z in corners]
    return [
        max(one[0], other[0]) - box[LEFT],
        box[RIGHT] - min(one[0], other[0]),
        max(one[1], other[1]) - box[LOW],
        box[HIGH] - min(one[1], other[1]),
        max(across),
        -min(across),
    ]


def meets(box, one, other):
    return min(margins(box, one, other)) >= 0


def foggy(fog, one, other):
    low = 0
    high = fog[LAST] - fog[FIRST]
    starts = margins(moved(fog, 0), one, other)
    afters = margins(moved(fog, 1), one, other)
    # The box keeps its form, so each margin changes by the same step every hour.
    for start, after in zip(starts, afters):
        step = after - start
        if step > 0:
            low = max(low, -(start // step))
        elif step < 0:
            high = min(high, start // -step)
        elif start < 0:
            return ()
    return tidy([(fog[FIRST] + low, fog[FIRST] + high)])


def foggy_all(fogs, one, other):
    found = []
    for fog in fogs:
        found.extend(foggy(fog, one, other))
    return tidy(found)
