"""The land of each place: the borders within which no other place is nearer."""

from nearland.covers import neighbours
from nearland.errors import NoPlace
from nearland.numbers import common_divisor
from nearland.rings import middle
from nearland.turning import left_corners


def heading(p, q):
    right = q[0] - p[0]
    up = q[1] - p[1]
    divisor = common_divisor(right, up)
    return (-up // divisor, right // divisor)


def left_middle(corners, a, b):
    if (a, b) not in corners:
        return None
    return middle(a, b, corners[(a, b)])


def borders(places, net, p):
    corners = left_corners(net)
    found = [(q, left_middle(corners, q, p), left_middle(corners, p, q)) for q in neighbours(places, net, p)]
    # A tie between two of several places on one ring may have a single point as near to both of its ends.
    return [border for border in found if border[1] is None or border[1] != border[2]]


def first_border(found):
    without_start = [border for border in found if border[1] is None]
    return min(found if without_start == [] else without_start, key=lambda border: border[0])


def next_border(told, left):
    if told == []:
        return first_border(left)
    # None follows None just where there are two borders that are endless to both hands.
    follows = [border for border in left if border[1] == told[-1][2]]
    return follows[0]


def land(places, net, p):
    if p not in places:
        raise NoPlace(p)
    left = borders(places, net, p)
    told = []
    while left != []:
        told.append(next_border(told, left))
        left = [border for border in left if border not in told]
    return told


def lands(places, net):
    return [(p, land(places, net, p)) for p in sorted(places)]
