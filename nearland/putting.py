"""A place put into a net, and the net by putting in one place after another."""

from nearland.errors import Twice
from nearland.outlines import outline_sides
from nearland.rings import spoils
from nearland.triangles import back, directed_sides, triangle_of
from nearland.turns import turn


def seen_sides(places, fallen, p):
    # Outside the outline the place sees some of its sides from behind; one whose triangle falls goes with it.
    seen = [back(way) for way in outline_sides(places) if turn(way[0], way[1], p) == -1]
    ways = directed_sides(fallen) + seen
    return [way for way in ways if back(way) not in ways]


def put_in(places, net, p):
    if p in places:
        raise Twice(p)
    fallen = [t for t in net if spoils(t[0], t[1], t[2], p)]
    # A side of the outline on which the place lies makes no triangle with it.
    ways = [way for way in seen_sides(places, fallen, p) if turn(way[0], way[1], p) == 1]
    come = sorted([triangle_of(way[0], way[1], p) for way in ways])
    stay = [t for t in net if t not in fallen]
    return (sorted(fallen), come, sorted(stay + come))


def by_putting(places):
    net = []
    for k in range(len(places)):
        net = put_in(places[:k], net, places[k])[2]
    return net
