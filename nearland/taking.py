"""A place taken out of a net."""

from nearland.covers import neighbours
from nearland.errors import NoPlace
from nearland.ringways import all_triangles
from nearland.rings import spoils
from nearland.triangles import is_spoilt


def taken_out(places, net, p):
    if p not in places:
        raise NoPlace(p)
    others = [q for q in places if q != p]
    fallen = [t for t in net if p in t]
    # What it spoils has only corners that it is joined to, once it is put in.
    spoilt = [t for t in all_triangles(neighbours(places, net, p)) if spoils(t[0], t[1], t[2], p)]
    come = [t for t in spoilt if not is_spoilt(others, t)]
    stay = [t for t in net if p not in t]
    return (sorted(fallen), sorted(come), sorted(stay + come))
