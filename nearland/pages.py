"""A page of rows, answered one behind the other."""

from nearland.covers import fault
from nearland.gaps import gap
from nearland.keeping import kept_fault, kept_net
from nearland.lands import land
from nearland.outlines import outline
from nearland.pairs import pair
from nearland.putting import put_in
from nearland.rows import read_row
from nearland.taking import taken_out
from nearland.texts import show_number, show_point
from nearland.trees import tree
from nearland.triangles import side_between
from nearland.turns import between
from nearland.walks import nearest, walk

MOST_PLACES = 16


class Ground:
    def __init__(self):
        self.named = {}
        self.held = []
        self.net = []


def places_of(ground):
    return list(ground.named.values())


def name_of(ground, p):
    names = [name for name in ground.named if ground.named[name] == p]
    return names[0]


def names_of(ground, places):
    return " ".join([name_of(ground, p) for p in places])


def or_none(text):
    return "none" if text == "" else text


def put(ground, values):
    p = (values[1], values[2])
    places = places_of(ground)
    if values[0] in ground.named or p in places:
        return "no twice"
    if len(places) >= MOST_PLACES:
        return "no room"
    if any([between(side[0], side[1], p) for side in ground.held]):
        return "no held"
    ground.net = put_in(places, ground.net, p)[2]
    ground.named[values[0]] = p
    return "yes"


def take(ground, values):
    p = values[0]
    ground.net = taken_out(places_of(ground), ground.net, p)[2]
    ground.held = [side for side in ground.held if p not in side]
    ground.named.pop(name_of(ground, p))
    return "yes"


def hold(ground, values):
    side = side_between(values[0], values[1])
    if side in ground.held:
        return "yes"
    # A side from a place to itself is none, and so a fault too.
    if kept_fault(places_of(ground), ground.held + [side]) is not None:
        return "no held"
    ground.held = ground.held + [side]
    return "yes"


def loose(ground, values):
    side = side_between(values[0], values[1])
    ground.held = [one for one in ground.held if one != side]
    return "yes"


def tell_net(ground, values):
    cover = kept_net(places_of(ground), ground.held)
    return or_none(", ".join([names_of(ground, t) for t in cover]))


def places_in(found):
    if found[0] == "lonely":
        return [found[1]]
    if found[0] == "spoilt":
        return list(found[1]) + [found[2]]
    return list(found[1])


def tell_judge(ground, values):
    triples = [(values[k], values[k + 1], values[k + 2]) for k in range(0, len(values), 3)]
    found = fault(places_of(ground), triples)
    return "good" if found is None else found[0] + " " + names_of(ground, places_in(found))


def show_end(X):
    return "-" if X is None else show_point(X)


def show_border(ground, border):
    return name_of(ground, border[0]) + " " + show_end(border[1]) + " " + show_end(border[2])


def tell_land(ground, values):
    told = land(places_of(ground), ground.net, values[0])
    return or_none("; ".join([show_border(ground, border) for border in told]))


def tell_near(ground, values):
    return or_none(names_of(ground, nearest(places_of(ground), (values[0], values[1]))))


def tell_walk(ground, values):
    told = walk(places_of(ground), ground.net, values[0], (values[1], values[2]))
    return names_of(ground, told)


def tell_pair(ground, values):
    side = pair(places_of(ground))
    return "none" if side is None else names_of(ground, side)


def tell_border(ground, values):
    return or_none(names_of(ground, outline(places_of(ground))))


def tell_tree(ground, values):
    return or_none(", ".join([names_of(ground, side) for side in tree(places_of(ground))]))


def tell_gap(ground, values):
    found = gap(places_of(ground))
    return "none" if found is None else show_point(found[0]) + " " + show_number(found[1])


ANSWERS = {
    "at": put,
    "off": take,
    "hold": hold,
    "loose": loose,
    "net": tell_net,
    "judge": tell_judge,
    "land": tell_land,
    "near": tell_near,
    "walk": tell_walk,
    "pair": tell_pair,
    "border": tell_border,
    "tree": tell_tree,
    "gap": tell_gap,
}


def answer(ground, row):
    read = read_row(row)
    if read is None:
        return "no row"
    values = []
    for two in read[1]:
        if two[0] == "name" and two[1] not in ground.named:
            return "no name"
        values.append(ground.named[two[1]] if two[0] == "name" else two[1])
    act = ANSWERS[read[0]]
    return act(ground, values)


def answers(page):
    ground = Ground()
    rows = [row.partition("#")[0].strip(" ") for row in page.split("\n")]
    return [answer(ground, row) for row in rows if row != ""]
