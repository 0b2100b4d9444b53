"""Whether a point lies within an outline, and the gap: the point there that is farthest from all places."""

from nearland.covers import ties
from nearland.crossings import on_way
from nearland.numbers import fraction, less, point_of
from nearland.outlines import on_one_line, outline_sides
from nearland.rings import apart, middle, square
from nearland.turning import by_turning
from nearland.turns import side_of
from nearland.walks import nearest


def in_outline(places, X):
    if on_one_line(places):
        return 0 if places != [] and on_way(min(places), max(places), X) else -1
    # Within, the point is at the left hand of each side; on the outline it is at the right hand of none.
    return min([side_of(way[0], way[1], X) for way in outline_sides(places)])


def as_near(side, way):
    # How much farther each end of the way is from the one end of the side than from the other: above 0 at one and below
    # at the other, some point between is as near to both. Not both are 0, as no place lies beyond the outline.
    first = apart(way[0], side[0]) - apart(way[0], side[1])
    last = apart(way[1], side[0]) - apart(way[1], side[1])
    if first * last > 0:
        return []
    bottom = first - last
    right = way[0][0] * bottom + (way[1][0] - way[0][0]) * first
    up = way[0][1] * bottom + (way[1][1] - way[0][1]) * first
    return [(fraction(right, bottom), fraction(up, bottom))]


def gap_points(places):
    # Of the part of a land that lies in the outline, the farthest point from its place is a corner: a place, the middle
    # of one of the net's triangles, or a point of the outline that is as near to both ends of a tie.
    net = by_turning(places)
    middles = [middle(t[0], t[1], t[2]) for t in net]
    points = [point_of(p) for p in places] + [X for X in middles if in_outline(places, X) != -1]
    for side in ties(places, net):
        for way in outline_sides(places):
            points.extend(as_near(side, way))
    return points


def is_wider(one, other):
    if one[1] != other[1]:
        return less(other[1], one[1])
    if one[0][0] != other[0][0]:
        return less(one[0][0], other[0][0])
    return less(one[0][1], other[0][1])


def gap(places):
    widest = None
    for X in gap_points(places):
        found = (X, square(nearest(places, X)[0], X))
        if widest is None or is_wider(found, widest):
            widest = found
    return widest
