"""Where sides meet, and which kept side shuts a place off from a point."""

from nearland.turns import between, turn


def cross(a, b, c, d):
    return turn(a, b, c) * turn(a, b, d) == -1 and turn(c, d, a) * turn(c, d, b) == -1


def holds_between(one, other):
    return between(one[0], one[1], other[0]) or between(one[0], one[1], other[1])


def meets(one, other):
    # Of two unlike sides with a stretch in common, one has an end of the other between its ends.
    if one == other or holds_between(one, other) or holds_between(other, one):
        return True
    return cross(one[0], one[1], other[0], other[1])


def enlarged(p, times):
    return (p[0] * times, p[1] * times)


def whole_point(X):
    # The point, times both bottoms: then it lies where a place may lie.
    return (X[0][0] * X[1][1], X[1][0] * X[0][1])


def on_way(a, b, X):
    times = X[0][1] * X[1][1]
    ends = (enlarged(a, times), enlarged(b, times))
    return whole_point(X) in ends or between(ends[0], ends[1], whole_point(X))


def shuts(side, X, d):
    # Enlarged alike, all of them lie to one another as before.
    times = X[0][1] * X[1][1]
    way = (whole_point(X), enlarged(d, times))
    if way[0] == way[1]:
        return False
    large = (enlarged(side[0], times), enlarged(side[1], times))
    if on_way(side[0], side[1], X) or holds_between(way, large):
        return True
    return cross(large[0], large[1], way[0], way[1])


def shut(kept, X, d):
    for side in kept:
        if shuts(side, X, d):
            return side
    return None
