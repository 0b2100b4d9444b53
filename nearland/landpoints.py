"""Whether a point lies within a land, on its border or outside."""

from nearland.rings import nearer


def in_land(p, land, X):
    # Within, the place is nearer than each one beyond a border: then all of these are 1, and so is the least.
    return min([nearer(X, p, border[0]) for border in land], default=1)
