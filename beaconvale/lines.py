"""Fractions, and straight lines through two spots of unlike places.

A fraction is a pair (top, bottom) in its least form, bottom 1 or more.
A spot is a pair (x, z) of whole numbers.
"""


def common_divisor(one, other):
    while other != 0:
        rest = one % other
        one = other
        other = rest
    return abs(one)


def fraction(top, bottom):
    divisor = common_divisor(top, bottom)
    # The bottom of a fraction told is never below nought, so the top bears the sign.
    if bottom < 0:
        divisor = -divisor
    return (top // divisor, bottom // divisor)


def less(one, other):
    return one[0] * other[1] < other[0] * one[1]


def lesser(one, other):
    return one if less(one, other) else other


def greater(one, other):
    return other if less(one, other) else one


def plus(one, other):
    return fraction(one[0] * other[1] + other[0] * one[1], one[1] * other[1])


def minus(one, other):
    return fraction(one[0] * other[1] - other[0] * one[1], one[1] * other[1])


def times(one, other):
    return fraction(one[0] * other[0], one[1] * other[1])


def up(one):
    # Whole division goes downwards, so it goes upwards between two turns of the sign.
    return -(-one[0] // one[1])


def down(one):
    return one[0] // one[1]


def side_of(one, other, spot):
    run = other[0] - one[0]
    rise = other[1] - one[1]
    over = (spot[1] - one[1]) * run - (spot[0] - one[0]) * rise
    # `over` is the height above the line times `run`, which may be below nought.
    if run < 0:
        over = -over
    if over > 0:
        return 1
    if over < 0:
        return -1
    return 0


def height_on(one, other, place):
    run = other[0] - one[0]
    rise = other[1] - one[1]
    top = one[1] * run * place[1] + rise * (place[0] - one[0] * place[1])
    return fraction(top, run * place[1])


def crossing(one, other, three, four):
    run = other[0] - one[0]
    rise = other[1] - one[1]
    second_run = four[0] - three[0]
    second_rise = four[1] - three[1]
    bottom = rise * second_run - second_rise * run
    # Lines of one steepness never meet, or are the same.
    if bottom == 0:
        return None
    top = (three[1] - one[1]) * run * second_run
    top = top + one[0] * rise * second_run - three[0] * second_rise * run
    return fraction(top, bottom)
