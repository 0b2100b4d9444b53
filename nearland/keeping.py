"""Kept sides: what is wrong with them, and the one cover that has them all."""

from nearland.covers import sides_of
from nearland.crossings import meets
from nearland.errors import Crossed
from nearland.sweeps import swept
from nearland.triangles import side_between
from nearland.turning import turned_over, turnings_but
from nearland.turns import between, twice


def is_side(places, side):
    return side[0] in places and side[1] in places and side[0] < side[1]


def alien_fault(places, kept):
    for side in kept:
        if not is_side(places, side):
            return ("alien", side)
    return None


def through_fault(places, kept):
    for side in kept:
        found = [p for p in places if between(side[0], side[1], p)]
        if found != []:
            return ("through", side, min(found))
    return None


def crossed_fault(kept):
    for k in range(len(kept)):
        for one in kept[:k]:
            if meets(one, kept[k]):
                return ("crossed", one, kept[k])
    return None


def kept_fault(places, kept):
    found = alien_fault(places, kept)
    if found is None:
        found = through_fault(places, kept)
    if found is None:
        found = crossed_fault(kept)
    return found


def sides_across(cover, side):
    return [one for one in sides_of(cover) if one != side and meets(one, side)]


def side_to_turn(across, side):
    def how_far(p):
        return (twice(side[0], side[1], p), p)

    # Of the ends at the left hand the farthest off, and of its sides the one whose other end is farthest off at the
    # right hand: at both there is no bay, so this side can always be turned over. Either there is then one fewer
    # across, or one fewer of them ends at the farthest place: so this comes to an end.
    ends = []
    for one in across:
        ends.extend(one)
    top = max(ends, key=how_far)
    low = min([one[1] if one[0] == top else one[0] for one in across if top in one], key=how_far)
    return side_between(top, low)


def with_side(cover, side):
    now = list(cover)
    across = sides_across(now, side)
    while across != []:
        now = turned_over(now, side_to_turn(across, side))
        across = sides_across(now, side)
    return now


def kept_net(places, kept):
    found = kept_fault(places, kept)
    if found is not None:
        raise Crossed(found)
    cover = swept(places)
    for side in kept:
        cover = with_side(cover, side)
    return turnings_but(cover, kept)[1]
