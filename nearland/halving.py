"""The net by halving: the nets of two halves, and the triangles that lie across."""

from nearland.outlines import outline_sides
from nearland.rings import spoils
from nearland.triangles import is_spoilt, triangle_of
from nearland.turns import turn


def parted(places):
    line = sorted(places)
    half = len(line) // 2
    return (line[:half], line[half:])


def first_across(first, second):
    for way in outline_sides(first + second):
        if way[0] in first and way[1] in second:
            return way
    return None


def net_corner(places, way):
    # Of the places at the left hand, the one is left over that no other one spoils together with the side.
    corner = None
    for d in places:
        if turn(way[0], way[1], d) == 1 and (corner is None or spoils(way[0], way[1], corner, d)):
            corner = d
    return corner


def triangles_across(first, second):
    # They stand in one row: each goes over a side to the next, from the outline's side across to its side back.
    way = first_across(first, second)
    if way is None:
        return []
    across = []
    corner = net_corner(first + second, way)
    while corner is not None:
        across.append(triangle_of(way[0], way[1], corner))
        way = (corner, way[1]) if corner in first else (way[0], corner)
        corner = net_corner(first + second, way)
    return sorted(across)


def halves(places):
    parts = parted(places)
    return (by_halving(parts[0]), by_halving(parts[1]), triangles_across(parts[0], parts[1]))


def by_halving(places):
    if len(places) < 3:
        return []
    parts = parted(places)
    nets = halves(places)
    first = [t for t in nets[0] if not is_spoilt(parts[1], t)]
    second = [t for t in nets[1] if not is_spoilt(parts[0], t)]
    return sorted(first + second + nets[2])
