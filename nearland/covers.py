"""Covers: their sides, ties, area, the triangles at a point, and what is wrong with a list of triangles."""

from nearland.outlines import on_one_line, outline_sides
from nearland.rings import spoils
from nearland.triangles import back, directed_sides, is_triangle, side_between
from nearland.turns import side_of, twice


def sides_of(cover):
    return sorted(set([side_between(way[0], way[1]) for way in directed_sides(cover)]))


def ties(places, cover):
    if cover != []:
        return sides_of(cover)
    line = sorted(places)
    return list(zip(line, line[1:]))


def neighbours(places, cover, p):
    found = []
    for side in ties(places, cover):
        if p in side:
            found.append(side[1] if side[0] == p else side[0])
    return found


def area(cover):
    return sum([twice(t[0], t[1], t[2]) for t in cover])


def has_point(t, X):
    for way in directed_sides([t]):
        if side_of(way[0], way[1], X) == -1:
            return False
    return True


def at(cover, X):
    return sorted([t for t in cover if has_point(t, X)])


def first_alien(places, triples):
    for t in triples:
        for corner in t:
            if corner not in places:
                return t
    return None


def first_flat(triples):
    for t in triples:
        if not is_triangle(t):
            return t
    return None


def least_double(triples):
    ways = directed_sides(triples)
    return min([way for way in ways if ways.count(way) > 1], default=None)


def least_bare(places, triples):
    ways = directed_sides(triples)
    border = outline_sides(places)
    ragged = [way for way in ways if back(way) not in ways and way not in border]
    missing = [way for way in border if way not in ways]
    return min(ragged + missing, default=None)


def least_lonely(places, triples):
    corners = []
    for t in triples:
        corners.extend(t)
    return min([p for p in places if p not in corners], default=None)


def spoilt_fault(places, triples):
    for t in triples:
        spoilers = [d for d in places if spoils(t[0], t[1], t[2], d)]
        if spoilers != []:
            return ("spoilt", t, min(spoilers))
    return None


def cover_fault(places, triples):
    double = least_double(triples)
    if double is not None:
        return ("double", double)
    bare = least_bare(places, triples)
    if bare is not None:
        return ("bare", bare)
    lonely = least_lonely(places, triples)
    if lonely is not None:
        return ("lonely", lonely)
    return None


def fault(places, triples):
    alien = first_alien(places, triples)
    if alien is not None:
        return ("alien", alien)
    flat = first_flat(triples)
    if flat is not None:
        return ("flat", flat)
    # On one line there is no triangle, so none is left here and none is missing.
    if on_one_line(places):
        return None
    found = cover_fault(places, triples)
    if found is not None:
        return found
    return spoilt_fault(places, triples)
