"""What the document says from sides that meet and lands on, reckoned anew without the package."""

import itertools
from fractions import Fraction
from math import gcd

from exact import (
    area, exact_between, exact_middle, exact_outline, exact_point, exact_sides, exact_square, exact_wrong, on_a_line,
    pair_of,
)


def share_of_way(a, b, x):
    """How far along the way from a to b the point x stands, which lies on their line."""
    across = ((b[0] - a[0]), (b[1] - a[1]))
    return Fraction((x[0] - a[0]) * across[0] + (x[1] - a[1]) * across[1], across[0] ** 2 + across[1] ** 2)


def along(a, b, share):
    return (a[0] + share * (b[0] - a[0]), a[1] + share * (b[1] - a[1]))


def in_common(a, b, c, d):
    """The outermost points that two straight ways have in common, a and b unlike; a point twice where it is one."""
    if c == d:
        on = area(a, b, c) == 0 and 0 <= share_of_way(a, b, c) <= 1
        return [c, c] if on else []
    first, last = area(c, d, a), area(c, d, b)
    if first == last == 0:
        ends = sorted([share_of_way(a, b, c), share_of_way(a, b, d)])
        ends = [max(ends[0], 0), min(ends[1], 1)]
        return [along(a, b, share) for share in ends] if ends[0] <= ends[1] else []
    if first == last:
        return []
    share = Fraction(first) / Fraction(first - last)
    point = along(a, b, share)
    on = 0 <= share <= 1 and 0 <= share_of_way(c, d, point) <= 1
    return [point, point] if on else []


def exact_meets(one, other):
    """Point 27."""
    common = in_common(*one, *other)
    if not common:
        return False
    return common[0] != common[1] or not (common[0] in one and common[0] in other)


def exact_shut(kept, X, d):
    """Point 30."""
    for one in kept:
        if any(point != d for point in in_common(*one, exact_point(X), d)):
            return one
    return None


def exact_kept_fault(places, kept):
    """Point 28."""
    for s in kept:
        if not (s[0] in places and s[1] in places and s[0] < s[1]):
            return ("alien", s)
    for s in kept:
        through = [p for p in places if exact_between(*s, p)]
        if through:
            return ("through", s, min(through))
    for k, s in enumerate(kept):
        for one in kept[:k]:
            if exact_meets(one, s):
                return ("crossed", one, s)
    return None


def keeps(cover, kept):
    """Whether a cover has all kept sides, and no wrong ones but these (point 29)."""
    return set(kept) <= set(exact_sides(cover)) and set(exact_wrong(cover)) <= set(kept)


def exact_heading(p, q):
    right, up = q[0] - p[0], q[1] - p[1]
    divisor = gcd(right, up)
    return (Fraction(-up, divisor).numerator, Fraction(right, divisor).numerator)


def exact_border(places, p, q):
    """Point 31: the stretch of the points as near to p as to q that the other places leave, None of at most a point."""
    start, end = None, None
    h = exact_heading(p, q)
    m = (Fraction(p[0] + q[0], 2), Fraction(p[1] + q[1], 2))
    for r in places:
        if r in (p, q):
            continue
        # Along m + s h, how much less the square of p is than that of r: steep * s + flat, to be below or at 0.
        steep = 2 * (h[0] * (r[0] - p[0]) + h[1] * (r[1] - p[1]))
        flat = (m[0] - p[0]) ** 2 + (m[1] - p[1]) ** 2 - (m[0] - r[0]) ** 2 - (m[1] - r[1]) ** 2
        if steep == 0:
            if flat > 0:
                return None
        elif steep > 0:
            end = -flat / steep if end is None else min(end, -flat / steep)
        else:
            start = -flat / steep if start is None else max(start, -flat / steep)
    if start is not None and end is not None and start >= end:
        return None
    told = [None if s is None else (pair_of(m[0] + s * h[0]), pair_of(m[1] + s * h[1])) for s in (start, end)]
    return (q, told[0], told[1])


def exact_land(places, p):
    """Points 31 and 32."""
    found = [exact_border(places, p, q) for q in places if q != p]
    found = sorted([border for border in found if border is not None], key=lambda border: border[0])
    if len(found) == 2 and all(border[1:] == (None, None) for border in found):
        return found
    found.sort(key=lambda border: border[1] is not None)
    told = found[:1]
    while len(told) < len(found):
        told += [border for border in found if border[1] == told[-1][2]]
    return told


def exact_lands(places):
    return [(p, exact_land(places, p)) for p in sorted(places)]


def exact_nearest(places, X):
    """Point 35."""
    squares = {p: exact_square(p, X) for p in places}
    return sorted(p for p in places if squares[p] == min(squares.values()))


def exact_ties(places, cover):
    if on_a_line(places):
        line = sorted(places)
        return list(zip(line, line[1:]))
    return exact_sides(cover)


def exact_walk(places, net, start, X):
    """Point 36, row by row."""
    joined = exact_ties(places, net)
    told = [start]
    while True:
        here = told[-1]
        around = sorted(q for one in joined if here in one for q in one if q != here)
        squares = {q: exact_square(q, X) for q in around + [here]}
        if any(squares[q] < squares[here] for q in around):
            told.append(min(around, key=lambda q: (squares[q], q)))
        else:
            return told + [q for q in around if squares[q] == squares[here] and q < here][:1]


def exact_pairs(places):
    """All pairs of places as sides, in the order of point 38, which is that of point 37 too."""
    sides = [tuple(sorted(two)) for two in itertools.combinations(places, 2)]
    return sorted(sides, key=lambda one: (exact_square(one[0], ((one[1][0], 1), (one[1][1], 1))), one))


def exact_tree(places):
    """Point 38."""
    groups = [{p} for p in places]
    told = []
    for a, b in exact_pairs(places):
        one, other = [[group for group in groups if p in group][0] for p in (a, b)]
        if one is not other:
            told.append((a, b))
            groups = [group for group in groups if group not in (one, other)] + [one | other]
    return told


def holds_point(corners, x):
    """Whether a triangle, a straight way or a single place has the point, in it or on it."""
    if len(corners) == 3:
        a, b, c = corners
        turns = [area(a, b, x), area(b, c, x), area(c, a, x)]
        return area(a, b, c) != 0 and (min(turns) >= 0 or max(turns) <= 0)
    a, b = corners[0], corners[-1]
    return x == a or (a != b and area(a, b, x) == 0 and 0 <= share_of_way(a, b, x) <= 1)


def exact_in_outline(places, X):
    """Point 39: what lies in the outline lies in a triangle of three places, between two or at one."""
    x = exact_point(X)
    some = [three for count in (1, 2, 3) for three in itertools.combinations(places, count)]
    if not any(holds_point(three, x) for three in some):
        return -1
    told = exact_outline(places)
    return 0 if any(holds_point(two, x) for two in zip(told, told[1:] + told[:1])) else 1


def as_near_to_both(p, q, a, b):
    """The points of the way from a to b, its ends among them, that are as near to p as to q."""
    first, last = [exact_square(p, x) - exact_square(q, x) for x in [((a[0], 1), (a[1], 1)), ((b[0], 1), (b[1], 1))]]
    if first == last:
        return []
    share = Fraction(first) / Fraction(first - last)
    return [along(a, b, share)] if 0 <= share <= 1 else []


def exact_gap(places):
    """Point 40, out of all points that could be it, whatever the net."""
    points = [(Fraction(x), Fraction(y)) for x, y in places]
    told = exact_outline(places)
    for p, q in itertools.combinations(places, 2):
        for a, b in zip(told, told[1:] + told[:1]):
            points += as_near_to_both(p, q, a, b)
    points = [(pair_of(x), pair_of(y)) for x, y in points]
    middles = {exact_middle(*three) for three in itertools.combinations(places, 3) if area(*three) != 0}
    sides = list(zip(told, told[1:] + told[:1]))
    points += [X for X in middles if all(area(*two, exact_point(X)) >= 0 for two in sides)]
    found = [(min(exact_square(p, X) for p in places), X) for X in points]
    if not found:
        return None
    most = max(square for square, X in found)
    X = min((X for square, X in found if square == most), key=exact_point)
    return (X, pair_of(most))
