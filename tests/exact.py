"""What the document says, reckoned anew with Python's fractions and without the package, to ask the program against."""

import functools
import itertools
from fractions import Fraction


def exact_point(X):
    return (Fraction(X[0][0], X[0][1]), Fraction(X[1][0], X[1][1]))


def exact_square(p, X):
    x, y = exact_point(X)
    return (p[0] - x) ** 2 + (p[1] - y) ** 2


def pair_of(number):
    return (number.numerator, number.denominator)


def area(a, b, c):
    return (b[0] - a[0]) * (c[1] - a[1]) - (b[1] - a[1]) * (c[0] - a[0])


def exact_middle(a, b, c):
    """Where the two straight lines cross of which each point is as far from a as from b, or from c."""
    b_row = (2 * (b[0] - a[0]), 2 * (b[1] - a[1]), b[0] ** 2 + b[1] ** 2 - a[0] ** 2 - a[1] ** 2)
    c_row = (2 * (c[0] - a[0]), 2 * (c[1] - a[1]), c[0] ** 2 + c[1] ** 2 - a[0] ** 2 - a[1] ** 2)
    below = b_row[0] * c_row[1] - b_row[1] * c_row[0]
    x = Fraction(b_row[2] * c_row[1] - b_row[1] * c_row[2], below)
    y = Fraction(b_row[0] * c_row[2] - b_row[2] * c_row[0], below)
    return (pair_of(x), pair_of(y))


def exact_ring(a, b, c, d):
    X = exact_middle(a, b, c)
    more = exact_square(a, X) - exact_square(d, X)
    return (more > 0) - (more < 0)


def exact_spoils(a, b, c, d):
    lies = exact_ring(a, b, c, d)
    if lies != 0:
        return lies == 1
    if d == a or d == b or d == c:
        return False
    least, two, three = sorted([a, b, c])
    if d < a and d < b and d < c:
        return True
    return least < d and area(two, three, d) * area(two, three, least) < 0


spoils_kept = functools.lru_cache(maxsize=None)(exact_spoils)


def as_triangle(a, b, c):
    least, two, three = sorted([a, b, c])
    return (least, two, three) if area(least, two, three) > 0 else (least, three, two)


def on_a_line(places):
    return all(area(a, b, c) == 0 for a, b, c in itertools.combinations(places, 3))


def exact_net(places):
    """Point 14, by looking at all triangles that there are."""
    found = [as_triangle(*three) for three in itertools.combinations(places, 3) if area(*three) != 0]
    return sorted(t for t in found if not any(spoils_kept(*t, d) for d in places))


def exact_between(a, b, c):
    return c not in (a, b) and area(a, b, c) == 0 and min(a, b) < c < max(a, b)


def exact_outline(places):
    """Point 11: a side of the outline has no place at its right hand and none between its ends."""
    line = sorted(places)
    if on_a_line(line):
        return line + line[-2:0:-1]
    following = {}
    for a, b in itertools.permutations(line, 2):
        if not any(area(a, b, c) < 0 or exact_between(a, b, c) for c in line):
            following[a] = b
    told = [line[0]]
    while following[told[-1]] != line[0]:
        told.append(following[told[-1]])
    return told


def exact_border(places):
    told = exact_outline(places)
    return [] if len(told) < 2 else list(zip(told, told[1:] + told[:1]))


def ways_of(t):
    return [(t[0], t[1]), (t[1], t[2]), (t[2], t[0])]


def side(a, b):
    return (min(a, b), max(a, b))


def exact_sides(cover):
    return sorted({side(*way) for t in cover for way in ways_of(t)})


def what_is_no_cover(places, cover):
    """Point 13, row by row; None of a cover."""
    if on_a_line(places):
        return None if cover == [] else "on one line"
    if cover != sorted(cover):
        return "not sorted"
    for t in cover:
        if t != as_triangle(*t) or area(*t) == 0 or not set(t) <= set(places):
            return "no triangle"
    ways = [way for t in cover for way in ways_of(t)]
    border = exact_border(places)
    if len(ways) != len(set(ways)):
        return "a directed side twice"
    if any((b, a) not in ways and (a, b) not in border for a, b in ways):
        return "a ragged side"
    if any(way not in ways for way in border):
        return "a side of the outline missing"
    if {p for t in cover for p in t} != set(places):
        return "a place left out"
    if len(cover) != 2 * len(places) - 2 - len(border):
        return "the count"
    return None


def sides_cross(one, other):
    if set(one) & set(other):
        return False
    (a, b), (c, d) = one, other
    return area(a, b, c) * area(a, b, d) < 0 and area(c, d, a) * area(c, d, b) < 0


def is_empty(t, places):
    return not any(p not in t and all(area(*way, p) >= 0 for way in ways_of(t)) for p in places)


def all_covers(places):
    """Every cover of the places: the least open directed side gets each triangle that it can have."""
    if on_a_line(places):
        return [[]]
    empty = [t for t in map(lambda three: as_triangle(*three), itertools.combinations(places, 3)) if area(*t) > 0]
    empty = [t for t in empty if is_empty(t, places)]
    border = set(exact_border(places))
    found = []

    def go(needs, taken, told):
        if not needs:
            found.append(sorted(told))
            return
        least = min(needs)
        for t in empty:
            ways = set(ways_of(t))
            if least in ways and not ways & taken:
                if not any(sides_cross(one, other) for one in ways for other in taken):
                    backs = {(b, a) for a, b in ways if (a, b) not in border}
                    now = taken | ways
                    go((needs | backs) - now, now, told + [t])

    go(border, set(), [])
    return sorted(cover for cover in found if what_is_no_cover(places, cover) is None)


def exact_measure(places, cover):
    """Point 17."""
    heights = sum(area(*t) * sum(x * x + y * y for x, y in t) for t in cover)
    return [heights] + [-sum(area(*t) for t in cover if p in t) for p in sorted(places)]


def exact_sharpest(cover):
    """Point 20, as a Fraction; None of []."""
    found = []
    for t in cover:
        for a, b, c in [t, (t[1], t[2], t[0]), (t[2], t[0], t[1])]:
            along = (b[0] - a[0]) * (c[0] - a[0]) + (b[1] - a[1]) * (c[1] - a[1])
            found.append(Fraction(along, area(a, b, c)))
    return max(found, default=None)


def far_corners(cover, one):
    """The corners to the left and to the right of a side, None where no triangle has it."""
    a, b = one
    left = [p for t in cover if (a, b) in ways_of(t) for p in t if p not in one]
    right = [p for t in cover if (b, a) in ways_of(t) for p in t if p not in one]
    return (left[0] if left else None, right[0] if right else None)


def exact_wrong(cover):
    """Point 18."""
    found = []
    for one in exact_sides(cover):
        c, d = far_corners(cover, one)
        if c is not None and d is not None and exact_spoils(*one, c, d):
            found.append(one)
    return found


def exact_turned(cover, one):
    """The cover with the side turned over, None where it cannot be (point 18)."""
    a, b = one
    c, d = far_corners(cover, one)
    if not a < b or c is None or d is None or area(c, d, a) * area(c, d, b) >= 0:
        return None
    rest = [t for t in cover if not {a, b} <= set(t)]
    return sorted(rest + [as_triangle(a, c, d), as_triangle(b, c, d)])
