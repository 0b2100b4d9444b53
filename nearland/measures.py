"""The measures of a cover, and its sharpest corner."""

from nearland.covers import area
from nearland.numbers import fraction, less
from nearland.triangles import rounds
from nearland.turns import twice


def height(t):
    return sum([p[0] * p[0] + p[1] * p[1] for p in t])


def measure(places, cover):
    heights = sum([area([t]) * height(t) for t in cover])
    return [heights] + [-area([t for t in cover if p in t]) for p in sorted(places)]


def sharpness(a, b, c):
    along = (b[0] - a[0]) * (c[0] - a[0]) + (b[1] - a[1]) * (c[1] - a[1])
    return fraction(along, twice(a, b, c))


def sharpest(cover):
    greatest = None
    for t in cover:
        for one in rounds(t):
            sharp = sharpness(one[0], one[1], one[2])
            if greatest is None or less(greatest, sharp):
                greatest = sharp
    return greatest
