"""Wrong sides of a cover, and the net that is left when they are turned over."""

from nearland.covers import sides_of
from nearland.errors import Stiff
from nearland.rings import spoils
from nearland.sweeps import swept
from nearland.triangles import back, rounds, side_between, triangle_of
from nearland.turns import turn


def left_corners(cover):
    corners = {}
    for t in cover:
        for one in rounds(t):
            corners[(one[0], one[1])] = one[2]
    return corners


def is_wrong(corners, side):
    if side not in corners or back(side) not in corners:
        return False
    return spoils(side[0], side[1], corners[side], corners[back(side)])


def wrong(cover):
    corners = left_corners(cover)
    return [side for side in sides_of(cover) if is_wrong(corners, side)]


def can_turn(corners, side):
    # The back of a side has two triangles too, but is no side itself.
    if side[0] > side[1] or side not in corners or back(side) not in corners:
        return False
    c = corners[side]
    d = corners[back(side)]
    return turn(c, d, side[0]) * turn(c, d, side[1]) == -1


def other_side(cover, side):
    corners = left_corners(cover)
    if not can_turn(corners, side):
        raise Stiff(side)
    return side_between(corners[side], corners[back(side)])


def turned_over(cover, side):
    new = other_side(cover, side)
    stay = [t for t in cover if side[0] not in t or side[1] not in t]
    come = [triangle_of(new[0], new[1], p) for p in side]
    return sorted(stay + come)


def least_to_turn(cover, kept):
    return min([side for side in wrong(cover) if side not in kept], default=None)


def turnings_but(cover, kept):
    now = list(cover)
    turns = []
    side = least_to_turn(now, kept)
    while side is not None:
        turns.append((side, other_side(now, side)))
        now = turned_over(now, side)
        side = least_to_turn(now, kept)
    return (turns, now)


def turnings(cover):
    return turnings_but(cover, [])


def by_turning(places):
    return turnings(swept(places))[1]
