"""Keeping two beacons apart at an hour: roads that share no keeper, and as few keepers as there are such roads."""

from beaconvale.errors import Beside
from beaconvale.valley import company_without, hidden, names_of, web_at

# Roads come into a beacon at one point and leave it from another one, so that there can be room
# for one road alone between these two.
INWARD = 0
OUTWARD = 1


def refuse_beside(valley, hour, name, other):
    # `hidden` itself refuses what is no beacon, then what is no hour; a beacon is not hidden from itself.
    if hidden(valley, name, other, hour) is None:
        raise Beside("the two are one, or see one another")


def others_than(valley, name, other):
    return [each for each in names_of(valley) if each != name and each != other]


def room_at_first(valley, hour, name, other):
    """For each pair of points with a step from the first to the second: for how many roads there is room."""
    room = {}
    for each in others_than(valley, name, other):
        room[((each, INWARD), (each, OUTWARD))] = 1
    # More room than there can be roads, so that beacons alone bound how many there are.
    plenty = len(names_of(valley))
    for one, another in web_at(valley, hour):
        room[((one, OUTWARD), (another, INWARD))] = plenty
        room[((another, OUTWARD), (one, INWARD))] = plenty
    return room


def points_from(room, start):
    """Each point to which there is room to go from the start, with the point ahead of it."""
    found = {start: None}
    waiting = [start]
    while len(waiting) > 0:
        point = waiting.pop(0)
        for step, left in room.items():
            if step[0] == point and left > 0 and step[1] not in found:
                found[step[1]] = point
                waiting.append(step[1])
    return found


def take_road(room, found, goal):
    point = goal
    while found[point] is not None:
        ahead = found[point]
        room[(ahead, point)] = room[(ahead, point)] - 1
        # The room that this gives the other way about lets a later road go back on the choice.
        room[(point, ahead)] = room.get((point, ahead), 0) + 1
        point = ahead


def room_at_last(valley, hour, name, other):
    room = room_at_first(valley, hour, name, other)
    found = points_from(room, (name, OUTWARD))
    while (other, INWARD) in found:
        take_road(room, found, (other, INWARD))
        found = points_from(room, (name, OUTWARD))
    return room


def steps_taken(valley, room, one):
    return [each for each in names_of(valley) if each != one and room.get(((each, INWARD), (one, OUTWARD)), 0) > 0]


def roads_taken(valley, room, name, other):
    roads = []
    for start in steps_taken(valley, room, name):
        road = [name]
        each = start
        while each != other:
            road.append(each)
            each = steps_taken(valley, room, each)[0]
        roads.append(road + [other])
    return roads


def roads_and_keepers(valley, hour, name, other):
    refuse_beside(valley, hour, name, other)
    room = room_at_last(valley, hour, name, other)
    found = points_from(room, (name, OUTWARD))
    # Where one can still come into a beacon but not through it, no further road can be had.
    keepers = [each for each in names_of(valley) if (each, INWARD) in found and (each, OUTWARD) not in found]
    return (roads_taken(valley, room, name, other), keepers)


def road_stands(valley, hour, name, other, road):
    refuse_beside(valley, hour, name, other)
    names = names_of(valley)
    if len(road) == 0 or road[0] != name or road[-1] != other:
        return False
    if len(set(road)) < len(road) or not all([each in names for each in road]):
        return False
    return all([hidden(valley, road[k - 1], road[k], hour) is None for k in range(1, len(road))])


def keeps_apart(valley, hour, name, other, names):
    refuse_beside(valley, hour, name, other)
    others = others_than(valley, name, other)
    if not all([each in others for each in names]):
        return False
    return other not in company_without(valley, hour, name, names)


def lone_keepers(valley, hour, name, other):
    refuse_beside(valley, hour, name, other)
    others = others_than(valley, name, other)
    return [each for each in others if other not in company_without(valley, hour, name, [each])]
