"""A page answered anew after points 41 and 42, out of what is reckoned without the package."""

import functools
import re
from fractions import Fraction

from exact import (
    all_covers, area, as_triangle, exact_border, exact_net, exact_outline, exact_point, on_a_line, pair_of, spoils_kept,
    ways_of,
)
from exact_more import (
    exact_gap, exact_kept_fault, exact_land, exact_nearest, exact_pairs, exact_tree, exact_walk, keeps,
)

NAME = r"[A-Za-z][A-Za-z0-9]{0,11}"
NUMBER = r"-?[0-9]{1,40}(?:/(?=0*[1-9])[0-9]{1,40})?"
THREE = rf"{NAME} +{NAME} +{NAME}"
FORMS = [
    rf"at +({NAME}) +({NUMBER}) +({NUMBER})", rf"(off) +({NAME})", rf"(hold) +({NAME}) +({NAME})",
    rf"(loose) +({NAME}) +({NAME})", rf"(judge) +({THREE}(?: *, *{THREE}){{0,59}})", rf"(land) +({NAME})",
    rf"(near) +({NUMBER}) +({NUMBER})", rf"(walk) +({NAME}) +({NUMBER}) +({NUMBER})", r"(net|pair|border|tree|gap)",
]


def exact_fault(places, triples):
    """Point 15, for triples of places that are there."""
    for t in triples:
        if len(set(t)) < 3 or area(*t) == 0 or t != as_triangle(*t):
            return ("flat", *t)
    ways = [way for t in triples for way in ways_of(t)]
    border = [] if on_a_line(places) else exact_border(places)
    for word, found in [
        ("double", [way for way in ways if ways.count(way) > 1]),
        ("bare", [(a, b) for a, b in ways if (b, a) not in ways and (a, b) not in border]
         + [way for way in border if way not in ways]),
        ("lonely", [(p,) for p in places if not on_a_line(places) and not any(p in t for t in triples)]),
    ]:
        if found:
            return (word, *min(found))
    for t in triples:
        spoilers = [d for d in places if spoils_kept(*t, d)]
        if spoilers:
            return ("spoilt", *t, min(spoilers))
    return None


@functools.lru_cache(maxsize=None)
def covers_of(places):
    return all_covers(list(places))


def number(text):
    return Fraction(text)


def point(x, y):
    return (pair_of(number(x)), pair_of(number(y)))


def show(X):
    return "-" if X is None else ",".join(str(part) for part in exact_point(X))


class Model:
    def __init__(self):
        self.places = {}
        self.held = []

    def listed(self, places):
        names = {p: name for name, p in self.places.items()}
        return " ".join(names[p] for p in places)

    def answer(self, row):
        for form in FORMS:
            found = re.fullmatch(form, row)
            if found and form.startswith("at"):
                return self.at(*found.groups())
            if found:
                word, *rest = found.groups()
                names = [one.lower() for part in rest for one in re.findall(NAME, part)]
                if not set(names) <= set(self.places):
                    return "no name"
                places = [self.places[name] for name in names]
                return getattr(self, word)(places, *[part for part in rest if re.fullmatch(NUMBER, part)]) or "none"
        return "no row"

    def at(self, name, x, y):
        if number(x).denominator != 1 or number(y).denominator != 1:
            return "no row"
        p = (int(number(x)), int(number(y)))
        if name.lower() in self.places or p in self.places.values():
            return "no twice"
        if len(self.places) == 16:
            return "no room"
        if exact_kept_fault(list(self.places.values()) + [p], self.held):
            return "no held"
        self.places[name.lower()] = p
        return "yes"

    def off(self, places):
        self.places = {name: p for name, p in self.places.items() if p != places[0]}
        self.held = [one for one in self.held if places[0] not in one]
        return "yes"

    def hold(self, places):
        one = tuple(sorted(places))
        if one not in self.held:
            if exact_kept_fault(list(self.places.values()), self.held + [one]):
                return "no held"
            self.held.append(one)
        return "yes"

    def loose(self, places):
        self.held = [one for one in self.held if one != tuple(sorted(places))]
        return "yes"

    def net(self, none):
        covers = covers_of(tuple(sorted(self.places.values())))
        cover, = [cover for cover in covers if cover == [] or keeps(cover, self.held)]
        return ", ".join(self.listed(t) for t in cover)

    def judge(self, places):
        found = exact_fault(list(self.places.values()), [tuple(places[k:k + 3]) for k in range(0, len(places), 3)])
        return f"{found[0]} {self.listed(found[1:])}" if found else "good"

    def land(self, places):
        told = exact_land(list(self.places.values()), places[0])
        return "; ".join(f"{self.listed([q])} {show(start)} {show(end)}" for q, start, end in told)

    def near(self, none, x, y):
        return self.listed(exact_nearest(list(self.places.values()), point(x, y))) if self.places else ""

    def walk(self, places, x, y):
        there = list(self.places.values())
        return self.listed(exact_walk(there, exact_net(there), places[0], point(x, y)))

    def pair(self, none):
        return self.listed([p for one in exact_pairs(self.places.values())[:1] for p in one])

    def border(self, none):
        return self.listed(exact_outline(list(self.places.values())))

    def tree(self, none):
        return ", ".join(self.listed(one) for one in exact_tree(list(self.places.values())))

    def gap(self, none):
        found = exact_gap(list(self.places.values()))
        return f"{show(found[0])} {Fraction(*found[1])}" if found else ""


def exact_answers(page):
    model = Model()
    rows = [re.sub(r"#.*", "", row).strip(" ") for row in page.split("\n")]
    return [model.answer(row) for row in rows if row]
