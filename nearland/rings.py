"""The ring through three places, what spoils them, and which of two places is nearer."""

from nearland.errors import Flat
from nearland.numbers import fraction, sign
from nearland.turns import turn, twice


def ring_area(a, b, c):
    area = twice(a, b, c)
    if area == 0:
        raise Flat("there is no ring through three places on one line")
    return area


def apart(p, q):
    right = q[0] - p[0]
    up = q[1] - p[1]
    return right * right + up * up


def middle(a, b, c):
    bottom = 2 * ring_area(a, b, c)
    b_apart = apart(a, b)
    c_apart = apart(a, c)
    right = (c[1] - a[1]) * b_apart - (b[1] - a[1]) * c_apart
    up = (b[0] - a[0]) * c_apart - (c[0] - a[0]) * b_apart
    return (fraction(a[0] * bottom + right, bottom), fraction(a[1] * bottom + up, bottom))


def ring(a, b, c, d):
    area = ring_area(a, b, c)
    depth = apart(d, a) * twice(d, b, c) + apart(d, b) * twice(d, c, a) + apart(d, c) * twice(d, a, b)
    # The depth is above 0 within the ring only where the three turn to the left.
    return sign(area) * sign(depth)


def spoils(a, b, c, d):
    lies = ring(a, b, c, d)
    if lies != 0:
        return lies == 1
    if d in (a, b, c):
        return False
    three = sorted([a, b, c])
    if d < three[0]:
        return True
    # A line meets the ring in no third place, so neither turn is 0.
    return turn(three[1], three[2], d) != turn(three[1], three[2], three[0])


def whole_square(p, X):
    # Times both bottoms all is whole: what is told is the square, times both bottoms twice.
    right = (p[0] * X[0][1] - X[0][0]) * X[1][1]
    up = (p[1] * X[1][1] - X[1][0]) * X[0][1]
    return right * right + up * up


def square(p, X):
    bottom = X[0][1] * X[1][1]
    return fraction(whole_square(p, X), bottom * bottom)


def nearer(X, p, q):
    # To one point the bottoms are alike, so that they need not be divided out.
    return sign(whole_square(q, X) - whole_square(p, X))
