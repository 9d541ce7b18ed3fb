"""Stretches of ground: tuples of pairs (low, high) of places, ascending and apart.

Both ends are held, so a pair whose low and high are alike holds a single place.
"""

from beaconvale.lines import fraction, greater, less, lesser


def with_stretch(stretches, low, high):
    ahead = [pair for pair in stretches if less(pair[1], low)]
    behind = [pair for pair in stretches if less(high, pair[0])]
    # What is neither wholly ahead nor wholly behind touches the new one and becomes one with it.
    touched = stretches[len(ahead):len(stretches) - len(behind)]
    if len(touched) > 0:
        low = lesser(low, touched[0][0])
        high = greater(high, touched[-1][1])
    return tuple(ahead + [(low, high)] + behind)


def joined(one, other):
    found = one
    for low, high in other:
        found = with_stretch(found, low, high)
    return found


def shared(one, other):
    found = []
    for low, high in one:
        for other_low, other_high in other:
            start = greater(low, other_low)
            end = lesser(high, other_high)
            if not less(end, start):
                found.append((start, end))
    return tuple(found)


def holds_place(stretches, place):
    return any([not less(place, low) and not less(high, place) for low, high in stretches])


def length(stretches):
    top = 0
    bottom = 1
    # Made a fraction once, at the end: the common divisor of long numbers is dear.
    for low, high in stretches:
        step_bottom = low[1] * high[1]
        step_top = high[0] * low[1] - low[0] * high[1]
        top = top * step_bottom + step_top * bottom
        bottom = bottom * step_bottom
    return fraction(top, bottom)
