"""The outline of places, and its sides."""

from nearland.turns import turn


def without_bays(line):
    chain = []
    for p in line:
        # Only a turn to the right makes a bay: places on a straight stretch stay.
        while len(chain) > 1 and turn(chain[-2], chain[-1], p) == -1:
            chain.pop()
        chain.append(p)
    return chain


def outline(places):
    line = sorted(places)
    if len(line) < 2:
        return line
    there = without_bays(line)
    home = without_bays(list(reversed(line)))
    # Each of the two ends where the other one begins.
    return there[:-1] + home[:-1]


def outline_sides(places):
    border = outline(places)
    if len(border) < 2:
        return []
    return list(zip(border, border[1:] + border[:1]))


def on_one_line(places):
    for p in places:
        if turn(min(places), max(places), p) != 0:
            return False
    return True
