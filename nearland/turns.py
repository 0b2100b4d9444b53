"""Which way three places turn, and how places and points lie to the way between two places."""

from nearland.numbers import sign


def twice(a, b, c):
    return (b[0] - a[0]) * (c[1] - a[1]) - (b[1] - a[1]) * (c[0] - a[0])


def turn(a, b, c):
    return sign(twice(a, b, c))


def side_of(a, b, X):
    x_bottom = X[0][1]
    y_bottom = X[1][1]
    # Times both bottoms all is whole; they are above 0, so the side stays.
    right = (X[0][0] - a[0] * x_bottom) * y_bottom
    up = (X[1][0] - a[1] * y_bottom) * x_bottom
    return sign((b[0] - a[0]) * up - (b[1] - a[1]) * right)


def between(a, b, c):
    # Along a line places follow each other in their order, or all the other way.
    return min(a, b) < c < max(a, b) and turn(a, b, c) == 0
