"""Who hears whom: for all hours at which a beacon may be lit, the hour at which tidings come to another one."""

from beaconvale.reaches import behind, earlier, reach_of, staying
from beaconvale.tidings import earliest
from beaconvale.valley import names_of, refuse_no_beacon, sight


def steps_of(valley):
    found = {}
    for name in names_of(valley):
        for other in names_of(valley):
            found[(name, other)] = reach_of(sight(valley, name, other), valley.delay, valley.first)
    return found


def hearings_from(valley, steps, name):
    names = names_of(valley)
    found = {}
    for each in names:
        found[each] = ()
    found[name] = staying(valley.first, valley.last)
    # A beacon whose hearing has become earlier may make those of the others earlier in their turn.
    changed = [name]
    while len(changed) > 0:
        ahead = changed.pop(0)
        for other in names:
            reach = earlier(found[other], behind(found[ahead], steps[(ahead, other)]))
            if reach != found[other]:
                found[other] = reach
                changed = [each for each in changed if each != other] + [other]
    return [found[each] for each in names]


def hearing(valley, name, other):
    refuse_no_beacon(valley, name)
    refuse_no_beacon(valley, other)
    return hearings_from(valley, steps_of(valley), name)[names_of(valley).index(other)]


def hearings(valley):
    steps = steps_of(valley)
    return [hearings_from(valley, steps, name) for name in names_of(valley)]


def heard_by(valley, name, hour, by):
    lit_hours = earliest(valley, name, hour)
    return [each for each, lit in zip(names_of(valley), lit_hours) if lit is not None and lit <= by]


def first_unheard(valley, name, other):
    reach = hearing(valley, name, other)
    # A reach that does not lead an hour leads no later one, so the first such hour is behind its end.
    unled = reach[-1][1] + 1 if len(reach) > 0 else valley.first
    return unled if unled <= valley.last else None
