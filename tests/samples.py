"""Lists of places to ask the program about, the edges that the document names among them."""

import itertools
from fractions import Fraction

FORTY = 10 ** 40 - 1

NONE = []
ONE = [(3, -2)]
TWO = [(4, 1), (-2, 7)]
THREE = [(0, 3), (4, 0), (0, 0)]

LINES = [
    [(2, 2), (0, 0), (1, 1)],
    [(0, 5), (0, -1), (0, 2), (0, 3)],
    [(7, 4), (-3, 4), (0, 4), (1, 4), (5, 4)],
    [(3, -6), (0, 0), (-1, 2), (2, -4), (1, -2)],
    [(-FORTY, -FORTY), (FORTY, FORTY), (0, 0)],
]

SQUARE = [(0, 0), (1, 0), (0, 1), (1, 1)]
CENTRED = [(4, 4), (0, 4), (2, 2), (4, 0), (0, 0)]
# Places on straight stretches of the outline, at all four hands.
STRETCHES = [(0, 0), (2, 0), (5, 0), (5, 3), (5, 4), (3, 4), (0, 4), (0, 1), (2, 2)]
SLANTED = [(0, 0), (2, 1), (4, 2), (6, 3), (3, 5), (1, 4), (2, 3)]
# All but one place on one line.
FAN = [(0, 0), (1, 0), (2, 0), (5, 0), (3, 4)]
TWO_SIDED = [(0, 0), (1, 1), (2, 2), (3, 3), (0, 3), (3, 0)]

RING = [(5, 0), (4, 3), (3, 4), (0, 5), (-3, 4), (-4, 3), (-5, 0), (-4, -3), (-3, -4), (0, -5), (3, -4), (4, -3)]
HEXAGON = [(5, 0), (3, 4), (-3, 4), (-5, 0), (-4, -3), (4, -3)]
TWO_RINGS = HEXAGON + [(10, 0), (0, 10), (-6, 8)]
FULL_RING = RING + [(0, 0), (1, 0), (10, 0), (-6, -8)]

GRID_SIX = [(x, y) for x in range(3) for y in range(2)]
GRID_EIGHT = [(x, y) for y in range(2) for x in range(4)]
GRID_NINE = [(x, y) for x in range(3) for y in range(3)]
GRID_SIXTEEN = [(x, y) for x in range(4) for y in range(4)]
TALL_GRID = [(x, y) for y in range(8) for x in range(2)]


def blown_up(places, times, right, up):
    return [(x * times + right, y * times + up) for x, y in places]


def shaken(places):
    """Each place a little elsewhere, so that rings and lines are missed by the least there is."""
    return [(x + k * k % 3 - 1, y + k % 3 - 1) for k, (x, y) in enumerate(places)]


GREAT = [
    [(FORTY, FORTY), (-FORTY, FORTY), (FORTY, -FORTY), (-FORTY, -FORTY), (0, 0)],
    [(-FORTY, -FORTY), (0, 1), (FORTY, FORTY), (1, 0)],
    blown_up(HEXAGON, 10 ** 39, 0, 0),
    blown_up(GRID_NINE, 10 ** 39, 7, -10 ** 39),
    shaken(blown_up(HEXAGON, 10 ** 39, 0, 0)),
    shaken(blown_up(GRID_NINE, 10 ** 39, 7, -10 ** 39)),
    blown_up(CENTRED, 1, 10 ** 40 - 9, 9 - 10 ** 40),
]
GREAT_SIXTEEN = [
    blown_up(GRID_SIXTEEN, 10 ** 39, -2 * 10 ** 39, 3),
    shaken(blown_up(FULL_RING, 9 * 10 ** 38, 1, 1)),
]


def scattered(seed, count, span):
    """Places that look strewn and are the same at any time."""
    found = []
    number = seed
    while len(found) < count:
        number = (number * 6364136223846793005 + 1442695040888963407) % 2 ** 64
        p = ((number >> 20) % span - span // 2, (number >> 42) % span - span // 2)
        if p not in found:
            found.append(p)
    return found


# Narrow spans bring many places onto one line or ring.
SCATTERED = [scattered(seed, 4 + seed % 5, span) for seed in range(20) for span in (4, 8, 1000)]
SCATTERED_SIXTEEN = [scattered(seed, 16, span) for seed in range(4) for span in (5, 9, 10 ** 15)]

SMALL = [NONE, ONE, TWO, THREE] + LINES + [
    SQUARE, CENTRED, STRETCHES, SLANTED, FAN, TWO_SIDED, HEXAGON, TWO_RINGS, GRID_SIX, GRID_EIGHT, GRID_NINE,
] + GREAT
LARGE = [RING, FULL_RING, GRID_SIXTEEN, TALL_GRID] + GREAT_SIXTEEN + SCATTERED_SIXTEEN
ALL = SMALL + SCATTERED + LARGE

# Few enough places to look at every cover there is.
FEW = [places for places in SMALL + SCATTERED if len(places) < 7] + [SLANTED, GRID_EIGHT, GRID_NINE, GREAT[5]]


def points_about(places):
    """Points to ask about: the places, points halfway and a third of the way between them, and some afar."""
    found = [((x, 1), (y, 1)) for x, y in places]
    for part in (2, 3):
        for a, b in itertools.combinations(sorted(places)[:7], 2):
            found.append(tuple(pair(Fraction(a[k] * (part - 1) + b[k], part)) for k in (0, 1)))
    for a, b, c in itertools.combinations(sorted(places)[:5], 3):
        found.append(tuple(pair(Fraction(a[k] + 2 * b[k] - c[k], 2)) for k in (0, 1)))
    return found + AFAR


def pair(number):
    return (number.numerator, number.denominator)


NEARLY_ONE = (10 ** 300 - 1, 10 ** 300 - 2)
AFAR = [
    ((0, 1), (0, 1)), ((-7, 2), (22, 7)), ((FORTY, 1), (-FORTY, 1)), ((1, 3), (10 ** 300 - 1, 1)),
    (NEARLY_ONE, NEARLY_ONE), ((2 - 10 ** 300, 10 ** 300 - 1), (10 ** 299, 10 ** 300 - 1)), (NEARLY_ONE, (1, 2)),
]


def parts_of_a_grid():
    """Every list of places out of three rows of three, in the grid's order."""
    for count in range(10):
        for places in itertools.combinations(GRID_NINE, count):
            yield list(places)


def orders(places):
    """The list in some other orders."""
    half = len(places) // 2
    line = sorted(places)
    return [places, places[::-1], line, line[::-1], places[half:] + places[:half], places[::2] + places[1::2]]
