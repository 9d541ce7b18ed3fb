"""Tidings: how soon a lit beacon lights the others, by which ways, and how late it may be lit."""

from beaconvale.kinds import is_whole
from beaconvale.spans import first_from, holds, last_to
from beaconvale.valley import names_of, refuse_no_beacon, refuse_no_hour, sight

# Where the hour lit stands in a triple of a way, and in what is kept of a beacon that is lit.
LIT = 2


def lightings(valley, name, hour):
    """For each beacon that can be lit: (the name of the one that it sees then, the hour seen, the hour lit)."""
    found = {}
    waiting = {name: (None, hour, hour)}
    while len(waiting) > 0:
        # None that waits can be lit earlier than the first of them, for no tidings go back in time.
        ahead = min(list(waiting), key=lambda each: waiting[each][LIT])
        found[ahead] = waiting.pop(ahead)
        for other in names_of(valley):
            if other not in found:
                seen = first_from(sight(valley, ahead, other), found[ahead][LIT])
                if seen is not None and (other not in waiting or seen + valley.delay < waiting[other][LIT]):
                    waiting[other] = (ahead, seen, seen + valley.delay)
    return found


def earliest(valley, name, hour):
    refuse_no_beacon(valley, name)
    refuse_no_hour(valley, hour)
    found = lightings(valley, name, hour)
    return [found[each][LIT] if each in found else None for each in names_of(valley)]


def way_to(valley, name, hour, goal):
    refuse_no_beacon(valley, name)
    refuse_no_beacon(valley, goal)
    refuse_no_hour(valley, hour)
    found = lightings(valley, name, hour)
    if goal not in found:
        return None
    way = []
    each = goal
    while each is not None:
        way.append((each, found[each][1], found[each][LIT]))
        each = found[each][0]
    way.reverse()
    return way


def step_holds(valley, ahead, triple):
    name = triple[0]
    seen = triple[1]
    if name == ahead[0] or name not in names_of(valley) or not is_whole(seen):
        return False
    if seen < ahead[LIT] or triple[LIT] != seen + valley.delay:
        return False
    return holds(sight(valley, ahead[0], name), seen)


def way_holds(valley, name, hour, way):
    refuse_no_beacon(valley, name)
    refuse_no_hour(valley, hour)
    if len(way) == 0 or way[0] != (name, hour, hour):
        return False
    for k in range(1, len(way)):
        if not step_holds(valley, way[k - 1], way[k]):
            return False
    return True


def bound_holds(valley, name, bound, other, other_bound):
    if bound is None:
        return True
    seen = first_from(sight(valley, name, other), bound)
    if seen is None:
        return True
    return other_bound is not None and other_bound <= seen + valley.delay


def bounds_hold(valley, name, hour, bounds):
    refuse_no_beacon(valley, name)
    refuse_no_hour(valley, hour)
    names = names_of(valley)
    if len(bounds) != len(names):
        return False
    own = bounds[names.index(name)]
    if own is None or own > hour:
        return False
    for one, bound in zip(names, bounds):
        for other, other_bound in zip(names, bounds):
            if not bound_holds(valley, one, bound, other, other_bound):
                return False
    return True


def limits_before(valley, goal, by):
    """For each beacon from which tidings can come to the goal in time: the hour by which it must be lit."""
    found = {}
    waiting = {goal: by}
    while len(waiting) > 0:
        # None that waits may be lit later than the last of them, for no tidings go back in time.
        following = max(list(waiting), key=lambda each: waiting[each])
        found[following] = waiting.pop(following)
        for other in names_of(valley):
            if other not in found:
                seen = last_to(sight(valley, other, following), found[following] - valley.delay)
                if seen is not None:
                    waiting[other] = max(seen, waiting.get(other, seen))
    return found


def latest(valley, goal, by):
    refuse_no_beacon(valley, goal)
    found = limits_before(valley, goal, by)
    # The goal's own limit alone may lie outside the valley's hours.
    if by < valley.first:
        return [None for each in names_of(valley)]
    found[goal] = min(by, valley.last)
    return [found.get(each) for each in names_of(valley)]
