"""All pairs of places in the order of how far they are apart, and the nearest pair."""

from nearland.rings import apart
from nearland.triangles import side_between


def all_pairs(places):
    pairs = []
    for k in range(len(places)):
        pairs.extend([side_between(places[k], p) for p in places[:k]])
    return sorted(pairs, key=lambda side: (apart(side[0], side[1]), side))


def pair(places):
    pairs = all_pairs(places)
    return None if pairs == [] else pairs[0]
