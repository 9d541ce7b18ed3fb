"""Reaches: tuples of pieces (low, high, to, step) that lead hours to hours.

A reach has one form alone: each piece, from the first hour on, takes as many hours as lie on one line.
"""

from beaconvale.kinds import is_whole

# Where the numbers of a piece stand in its tuple.
LOW = 0
HIGH = 1
TO = 2
STEP = 3
NUMBERS = 4


def led(piece, hour):
    return piece[TO] + piece[STEP] * (hour - piece[LOW])


def end_of(piece):
    return led(piece, piece[HIGH])


def can_be_drawn(piece, to):
    # A piece of one hour lies on a line of either step.
    if piece[LOW] == piece[HIGH]:
        return to == piece[TO] or to == piece[TO] + 1
    return to == led(piece, piece[HIGH] + 1)


def is_piece(value):
    if not isinstance(value, tuple) or len(value) != NUMBERS:
        return False
    if not all([is_whole(number) for number in value]):
        return False
    if value[LOW] == value[HIGH]:
        return value[STEP] == 0
    return value[LOW] < value[HIGH] and (value[STEP] == 0 or value[STEP] == 1)


def may_follow(piece, following):
    if following[LOW] != piece[HIGH] + 1 or following[TO] < end_of(piece):
        return False
    return not can_be_drawn(piece, following[TO])


def is_reach(value):
    if not isinstance(value, tuple) or not all([is_piece(piece) for piece in value]):
        return False
    return all([may_follow(value[k - 1], value[k]) for k in range(1, len(value))])


def put(pieces, low, high, to, step):
    """Takes the hours from low to high into a list of pieces that ends straight ahead of them."""
    start = low
    if low <= high and len(pieces) > 0 and can_be_drawn(pieces[-1], to):
        last = pieces[-1]
        drawn_step = to - end_of(last)
        # Of hours that lie on another line the first one alone lies on that of the last piece too.
        drawn_high = high if step == drawn_step else low
        pieces[-1] = (last[LOW], drawn_high, last[TO], drawn_step)
        start = drawn_high + 1
    if start <= high:
        pieces.append((start, high, to + step * (start - low), step if start < high else 0))


def reach_of(spans, delay, first):
    found = []
    hour = first
    for low, high in spans:
        put(found, hour, low - 1, low + delay, 0)
        start = max(hour, low)
        put(found, start, high, start + delay, 1)
        hour = max(hour, high + 1)
    return tuple(found)


def staying(first, last):
    if first > last:
        return ()
    return reach_of(((first, last),), 0, first)


def hour_at(reach, hour):
    for piece in reach:
        if piece[LOW] <= hour <= piece[HIGH]:
            return led(piece, hour)
    return None


def put_cut(pieces, piece, low, high):
    put(pieces, low, high, led(piece, low), piece[STEP])


def put_crossing(pieces, climbing, flat, low, high):
    # The one that climbs is the lesser until it has made up what it is below the other.
    lead = led(flat, low) - led(climbing, low)
    meeting = min(high, low + max(lead, -1))
    put_cut(pieces, climbing, low, meeting)
    put_cut(pieces, flat, meeting + 1, high)


def put_lesser(pieces, piece, rival, low, high):
    if piece[STEP] > rival[STEP]:
        put_crossing(pieces, piece, rival, low, high)
    elif piece[STEP] < rival[STEP]:
        put_crossing(pieces, rival, piece, low, high)
    elif led(piece, low) < led(rival, low):
        put_cut(pieces, piece, low, high)
    else:
        put_cut(pieces, rival, low, high)


def earlier(one, other):
    if len(one) == 0 or len(other) == 0:
        return one + other
    found = []
    hour = one[0][LOW]
    i = 0
    j = 0
    while i < len(one) and j < len(other):
        high = min(one[i][HIGH], other[j][HIGH])
        put_lesser(found, one[i], other[j], hour, high)
        hour = high + 1
        i = i + 1 if one[i][HIGH] == high else i
        j = j + 1 if other[j][HIGH] == high else j
    # Where one of the two ends, the other one alone leads the hours that are left.
    for piece in one[i:] + other[j:]:
        put_cut(found, piece, max(hour, piece[LOW]), piece[HIGH])
    return tuple(found)


def put_led_on(pieces, piece, following):
    start = max(piece[TO], following[LOW])
    end = min(end_of(piece), following[HIGH])
    if start <= end and piece[STEP] == 0:
        put(pieces, piece[LOW], piece[HIGH], led(following, start), 0)
    elif start <= end:
        shift = piece[LOW] - piece[TO]
        put(pieces, start + shift, end + shift, led(following, start), following[STEP])


def behind(one, other):
    found = []
    for piece in one:
        for following in other:
            put_led_on(found, piece, following)
    return tuple(found)


def turned(reach, last):
    found = []
    for k, piece in enumerate(reach):
        # From where the next piece leads on, later hours of the reach are led there or earlier.
        end = min(last, reach[k + 1][TO] - 1) if k + 1 < len(reach) else last
        top = end_of(piece)
        put(found, piece[TO], min(end, top - 1), piece[LOW], 1)
        put(found, top, end, piece[HIGH], 0)
    return tuple(found)


def parting(piece, rival):
    if piece[LOW] != rival[LOW]:
        return min(piece[LOW], rival[LOW])
    if piece[TO] != rival[TO]:
        return piece[LOW]
    if piece[STEP] != rival[STEP]:
        return piece[LOW] + 1
    return min(piece[HIGH], rival[HIGH]) + 1


def unlike_at(one, other):
    for piece, rival in zip(one, other):
        if piece != rival:
            return parting(piece, rival)
    # What the longer one has behind the end of the shorter one, it leads alone.
    rest = one[len(other):] + other[len(one):]
    return rest[0][LOW] if len(rest) > 0 else None
