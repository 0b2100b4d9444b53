"""The net, had again from the lands of all places."""

from nearland.triangles import triangle_of
from nearland.turns import turn


def standing(some):
    # The places that stand at each point that is a start or an end.
    places = {}
    for one in some:
        for border in one[1]:
            for X in border[1:]:
                if X is not None and one[0] not in places.setdefault(X, []):
                    places[X].append(one[0])
    return places


def round_from(least, others):
    # The least lies on the ring too, so that from it each one is seen to the left of those that stand ahead of it.
    return sorted(others, key=lambda p: len([q for q in others if turn(least, q, p) == 1]))


def fan(places):
    least = min(places)
    others = round_from(least, [p for p in places if p != least])
    return [triangle_of(least, two[0], two[1]) for two in zip(others, others[1:])]


def net_of(some):
    places = standing(some)
    net = []
    for X in places:
        net.extend(fan(places[X]))
    return sorted(net)
