"""What is seen of the ground from spots that stand on it or above it."""

from beaconvale.ground import ground_at, refuse_not_standing
from beaconvale.lines import crossing, greater, height_on, less, lesser, side_of
from beaconvale.stretches import joined, with_stretch


def corners_between(ground, place, other_place):
    low = lesser(place, other_place)
    high = greater(place, other_place)
    return [corner for corner in ground.corners if less(low, (corner[0], 1)) and less((corner[0], 1), high)]


def sees_place(ground, spot, place):
    refuse_not_standing(ground, spot)
    height = ground_at(ground, place)
    # The ground bends at corners alone, so where any of it is above the line of sight, a corner is.
    for corner in corners_between(ground, (spot[0], 1), place):
        if less(height, height_on(spot, corner, place)):
            return False
    return True


def first_seen(spot, highest, near, far):
    place = crossing(spot, highest, near, far)
    # Ground that runs along the line of sight itself is seen from its near end on.
    if place is None:
        return (near[0], 1)
    return place


def seen_outward(spot, corners):
    if len(corners) == 0:
        return []
    near = corners[0]
    # The corner that hides most of what is behind it, of those that were passed.
    highest = near
    found = [((spot[0], 1), (near[0], 1))]
    for far in corners[1:]:
        if side_of(spot, highest, far) >= 0:
            found.append((first_seen(spot, highest, near, far), (far[0], 1)))
            highest = far
        near = far
    return found


def seen(ground, spot):
    refuse_not_standing(ground, spot)
    own = (spot[0], 1)
    found = ((own, own),)
    left_corners = [corner for corner in ground.corners if corner[0] < spot[0]]
    left_corners.reverse()
    for near, far in seen_outward(spot, left_corners):
        found = with_stretch(found, far, near)
    right_corners = [corner for corner in ground.corners if corner[0] > spot[0]]
    for near, far in seen_outward(spot, right_corners):
        found = with_stretch(found, near, far)
    return found


def watched(ground, spots):
    found = ()
    for spot in spots:
        found = joined(found, seen(ground, spot))
    return found
