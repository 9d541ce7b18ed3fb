"""The ground of a valley: its height, who stands on it, and what is clear over it."""

from beaconvale.errors import BadGround, OffGround
from beaconvale.lines import height_on, less, side_of, up

LEAST_CORNERS = 2
MOST_CORNERS = 40


def refuse_bad_corners(corners):
    if len(corners) < LEAST_CORNERS or len(corners) > MOST_CORNERS:
        raise BadGround("the ground has 2 to 40 corners")
    for k in range(1, len(corners)):
        if corners[k][0] <= corners[k - 1][0]:
            raise BadGround("the places of the corners must ascend")


class Ground:
    def __init__(self, corners):
        refuse_bad_corners(corners)
        self.corners = list(corners)


def is_on(ground, place):
    first = (ground.corners[0][0], 1)
    last = (ground.corners[-1][0], 1)
    return not less(place, first) and not less(last, place)


def ground_at(ground, place):
    if not is_on(ground, place):
        raise OffGround("the place is not on the ground")
    corners = ground.corners
    k = 1
    while less((corners[k][0], 1), place):
        k += 1
    return height_on(corners[k - 1], corners[k], place)


def stands(ground, spot):
    place = (spot[0], 1)
    if not is_on(ground, place):
        return False
    return not less((spot[1], 1), ground_at(ground, place))


def refuse_not_standing(ground, spot):
    if not stands(ground, spot):
        raise OffGround("the spot does not stand on the ground")


def numbers_between(ground, x, other_x):
    low = min(x, other_x)
    high = max(x, other_x)
    return [k for k, corner in enumerate(ground.corners) if low < corner[0] < high]


def hinder(ground, one, other):
    refuse_not_standing(ground, one)
    refuse_not_standing(ground, other)
    for k in numbers_between(ground, one[0], other[0]):
        if side_of(one, other, ground.corners[k]) > 0:
            return k
    return None


def clear(ground, one, other):
    return hinder(ground, one, other) is None


def least_top(ground, x, spot):
    refuse_not_standing(ground, spot)
    place = (x, 1)
    top = up(ground_at(ground, place))
    for k in numbers_between(ground, x, spot[0]):
        # A top is clear of a corner from the line through the spot and that corner on.
        top = max(top, up(height_on(spot, ground.corners[k], place)))
    return top


def rope(ground, one, other):
    refuse_not_standing(ground, one)
    refuse_not_standing(ground, other)
    path = [one]
    numbers = numbers_between(ground, one[0], other[0])
    if other[0] < one[0]:
        numbers.reverse()
    for spot in [ground.corners[k] for k in numbers] + [other]:
        # A spot that is not above the line past it does not hold the rope up.
        while len(path) > 1 and side_of(path[-2], spot, path[-1]) <= 0:
            path.pop()
        path.append(spot)
    return path
