"""The tree of least ties that join all places, the point halfway along a side, and the way along the tree."""

from nearland.numbers import fraction
from nearland.pairs import all_pairs
from nearland.triangles import back


def joined(groups, one, other):
    now = {}
    for p in groups:
        now[p] = one if groups[p] == other else groups[p]
    return now


def tree(places):
    # Two places are joined where their groups are one.
    groups = dict([(p, p) for p in places])
    sides = []
    for side in all_pairs(places):
        one = groups[side[0]]
        other = groups[side[1]]
        if one != other:
            sides.append(side)
            groups = joined(groups, one, other)
    return sides


def halfway(a, b):
    return (fraction(a[0] + b[0], 2), fraction(a[1] + b[1], 2))


def one_farther(ways, sides):
    now = dict(ways)
    for side in sides:
        for step in (side, back(side)):
            if step[0] in ways and step[1] not in ways:
                now[step[1]] = ways[step[0]] + [step[1]]
    return now


def way(sides, a, b):
    ways = {a: [a]}
    # No way along the tree has more sides than the tree.
    for k in range(len(sides)):
        ways = one_farther(ways, sides)
    return ways[b]
