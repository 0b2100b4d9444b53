"""Sides, directed sides and triangles, as the modules above them share them."""

from nearland.rings import spoils
from nearland.turns import turn


def back(way):
    return (way[1], way[0])


def side_between(a, b):
    return (min(a, b), max(a, b))


def triangle_of(a, b, c):
    three = sorted([a, b, c])
    if turn(three[0], three[1], three[2]) == 1:
        return (three[0], three[1], three[2])
    return (three[0], three[2], three[1])


def is_triangle(t):
    return t[0] == min(t) and turn(t[0], t[1], t[2]) == 1


def rounds(t):
    # The triangle told from each corner on: the first two are then a directed side, the third lies at its left hand.
    return [(t[0], t[1], t[2]), (t[1], t[2], t[0]), (t[2], t[0], t[1])]


def directed_sides(cover):
    ways = []
    for t in cover:
        ways.extend([(one[0], one[1]) for one in rounds(t)])
    return ways


def is_spoilt(places, t):
    for d in places:
        if spoils(t[0], t[1], t[2], d):
            return True
    return False
