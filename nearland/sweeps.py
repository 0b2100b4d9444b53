"""A cover of places, made by a sweep over them."""

from nearland.outlines import outline_sides
from nearland.triangles import triangle_of
from nearland.turns import turn


def swept(places):
    line = sorted(places)
    cover = []
    for k in range(len(line)):
        p = line[k]
        # A place that comes behind all others lies outside their outline and sees the sides whose right hand it is at.
        seen = [way for way in outline_sides(line[:k]) if turn(way[0], way[1], p) == -1]
        cover.extend([triangle_of(way[0], way[1], p) for way in seen])
    return sorted(cover)
