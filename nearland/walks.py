"""The nearest places to a point, and the walk there along the ties of the net."""

from nearland.covers import neighbours
from nearland.errors import NoPlace
from nearland.rings import nearer


def nearest(places, X):
    found = []
    for p in sorted(places):
        closer = 1 if found == [] else nearer(X, p, found[0])
        if closer == 1:
            found = [p]
        elif closer == 0:
            found.append(p)
    return found


def nearer_step(around, here, X):
    # The nearest are told sorted: of alike near ones the least stands first.
    steps = [q for q in nearest(around, X) if nearer(X, q, here) == 1]
    return None if steps == [] else steps[0]


def last_step(around, here, X):
    return sorted([q for q in around if q < here and nearer(X, q, here) == 0])[:1]


def walk(places, net, start, X):
    if start not in places:
        raise NoPlace(start)
    told = []
    step = start
    while step is not None:
        told.append(step)
        step = nearer_step(neighbours(places, net, step), step, X)
    return told + last_step(neighbours(places, net, told[-1]), told[-1], X)
