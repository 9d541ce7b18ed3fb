"""Valleys as texts: showing a valley, and reading it again."""

from beaconvale.errors import BadLine, BadNumber
from beaconvale.ground import Ground
from beaconvale.valley import Valley

FIGURES = "0123456789"
MOST_FIGURES = 60

# The lines in their order: the first word, the fewest and the most such lines (None: any number of
# them), and how many words follow the first one (None: a word for each corner).
LINES = (
    ("ground", 1, 1, None),
    ("hours", 1, 1, 2),
    ("delay", 1, 1, 1),
    ("haze", 0, 1, 1),
    ("beacon", 0, None, 3),
    ("fog", 0, None, 8),
)


def number_of(text):
    figures = text[1:] if text.startswith("-") else text
    if len(figures) < 1 or len(figures) > MOST_FIGURES:
        raise BadNumber("a number has 1 to 60 figures")
    if not all([sign in FIGURES for sign in figures]):
        raise BadNumber("a number is written in figures")
    if figures[0] == "0" and text != "0":
        raise BadNumber("a number does not begin with a nought")
    return int(text)


def spaced(words):
    return " ".join([str(word) for word in words])


def show_valley(valley):
    lines = [
        spaced(["ground"] + [f"{x}:{z}" for x, z in valley.ground.corners]),
        spaced(["hours", valley.first, valley.last]),
        spaced(["delay", valley.delay]),
    ]
    if valley.haze is not None:
        lines.append(spaced(["haze", valley.haze]))
    for beacon in valley.beacons:
        lines.append(spaced(["beacon"] + list(beacon)))
    for fog in valley.fogs:
        lines.append(spaced(["fog"] + list(fog)))
    return "\n".join(lines)


def are_corners(words):
    return len(words) > 0 and all([word.count(":") == 1 for word in words])


def refuse_bad_words(words, size):
    if "" in words:
        raise BadLine("words are parted by one blank each")
    if size is None and not are_corners(words):
        raise BadLine("the ground has corners, each with one colon")
    if size is not None and len(words) != size:
        raise BadLine("a line has too many or too few words")


def rows_by_word(text):
    """For each first word the rows of words that follow it, line by line."""
    rows = [line.split(" ") for line in text.split("\n")]
    found = {}
    k = 0
    for first_word, fewest, most, size in LINES:
        taken = []
        while k < len(rows) and rows[k][0] == first_word and (most is None or len(taken) < most):
            refuse_bad_words(rows[k][1:], size)
            taken.append(rows[k][1:])
            k += 1
        if len(taken) < fewest:
            raise BadLine("a line is left out, or stands in another place")
        found[first_word] = taken
    if k < len(rows):
        raise BadLine("a line is none, or stands in another place")
    return found


def numbers_of(words):
    return tuple([number_of(word) for word in words])


def read_valley(text):
    rows = rows_by_word(text)
    # Every number is read ahead of the ground: a number that is none is refused first.
    corners = [numbers_of(word.split(":")) for word in rows["ground"][0]]
    hours = numbers_of(rows["hours"][0])
    delay = number_of(rows["delay"][0][0])
    hazes = [number_of(row[0]) for row in rows["haze"]]
    beacons = [(row[0], number_of(row[1]), number_of(row[2])) for row in rows["beacon"]]
    fogs = [numbers_of(row) for row in rows["fog"]]
    haze = hazes[0] if len(hazes) > 0 else None
    return Valley(Ground(corners), beacons, fogs, haze, hours[0], hours[1], delay)
