"""What is told of a valley in lines of text."""

from beaconvale.tidings import earliest
from beaconvale.valley import names_of, pairs_of, sight


def shown_span(low, high):
    return f"{low}" if low == high else f"{low}..{high}"


def sight_line(valley, name, other):
    shown = [shown_span(low, high) for low, high in sight(valley, name, other)]
    hours = ", ".join(shown) if len(shown) > 0 else "never"
    return f"{name} {other}: {hours}"


def lit_line(name, lit):
    return f"{name} dark" if lit is None else f"{name} lit {lit}"


def report(valley, name, hour):
    lit_hours = earliest(valley, name, hour)
    lines = [sight_line(valley, one, other) for one, other in pairs_of(valley)]
    for each, lit in zip(names_of(valley), lit_hours):
        lines.append(lit_line(each, lit))
    return lines
