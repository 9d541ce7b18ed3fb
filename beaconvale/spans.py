"""Spans of hours: tuples of pairs (low, high) of hours, ascending, with an hour at least between two."""


def tidy(pairs):
    found = []
    for low, high in sorted([(pair[0], pair[1]) for pair in pairs if pair[0] <= pair[1]]):
        # Hours that follow one another are one span, so a low one above the high ahead is no new one.
        if len(found) > 0 and low <= found[-1][1] + 1:
            found[-1] = (found[-1][0], max(found[-1][1], high))
        else:
            found.append((low, high))
    return tuple(found)


def both(one, other):
    found = []
    for low, high in one:
        for other_low, other_high in other:
            found.append((max(low, other_low), min(high, other_high)))
    return tidy(found)


def either(one, other):
    return tidy(one + other)


def gaps(spans, low, high):
    found = []
    start = low
    for span in spans:
        found.append((start, span[0] - 1))
        start = span[1] + 1
    found.append((start, high))
    return tidy(found)


def without(one, other):
    if len(one) == 0:
        return ()
    # Hours outside the ends of the first are not held by it, so gaps are asked for between these alone.
    return both(one, gaps(other, one[0][0], one[-1][1]))


def holds(spans, hour):
    return any([low <= hour <= high for low, high in spans])


def many(spans):
    return sum([high - low + 1 for low, high in spans])


def first_from(spans, hour):
    for low, high in spans:
        if hour <= high:
            return max(low, hour)
    return None


def last_to(spans, hour):
    for low, high in reversed(spans):
        if low <= hour:
            return min(high, hour)
    return None
