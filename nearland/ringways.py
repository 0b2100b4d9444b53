"""The net by rings: all triangles that no place spoils."""

from nearland.triangles import is_spoilt, triangle_of
from nearland.turns import turn


def all_triangles(places):
    triangles = []
    for k in range(len(places)):
        for m in range(k):
            for n in range(m):
                if turn(places[k], places[m], places[n]) != 0:
                    triangles.append(triangle_of(places[k], places[m], places[n]))
    return triangles


def by_rings(places):
    return sorted([t for t in all_triangles(places) if not is_spoilt(places, t)])
