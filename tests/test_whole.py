"""What point [4] promises over the whole program, each sentence asked of the program's own answers."""

import itertools
import unittest

from exact import all_covers
from nearland.covers import fault, sides_of, ties
from nearland.crossings import shut
from nearland.gaps import gap, in_outline
from nearland.halving import by_halving
from nearland.keeping import kept_net
from nearland.landback import net_of
from nearland.landpoints import in_land
from nearland.lands import lands
from nearland.measures import measure
from nearland.numbers import fraction, less, point_of
from nearland.outlines import outline
from nearland.pages import answers
from nearland.pairs import pair
from nearland.putting import by_putting, put_in
from nearland.rings import middle, nearer, spoils, square
from nearland.ringways import by_rings
from nearland.sweeps import swept
from nearland.taking import taken_out
from nearland.trees import halfway, tree, way
from nearland.turning import by_turning, turned_over, turnings, wrong
from nearland.walks import nearest, walk
from samples import (
    ALL, CENTRED, FEW, FULL_RING, GRID_NINE, GRID_SIXTEEN, HEXAGON, LARGE, LINES, SMALL, STRETCHES, orders,
    points_about,
)

# One of each sort, for what takes long.
SOME = [CENTRED, STRETCHES, HEXAGON, GRID_NINE, LINES[1], FULL_RING, GRID_SIXTEEN] + LARGE[4:7]


def within(t):
    """A point within a triangle: the point halfway between a corner and the point halfway along the other side."""
    a, b, c = t
    return tuple(fraction(2 * a[k] + b[k] + c[k], 4) for k in (0, 1))


class Whole(unittest.TestCase):
    def test_there_is_one_net_whichever_way_it_is_made(self):
        for places in ALL:
            nets = [make(order) for make in (by_turning, by_rings, by_putting, by_halving) for order in orders(places)]
            nets += [kept_net(places, []), net_of(lands(places, nets[0])), turnings(swept(places))[1]]
            self.assertEqual(nets, [nets[0]] * len(nets))
            self.assertIsNone(fault(places, nets[0]))

    def test_a_place_put_in_or_taken_out_changes_just_the_triangles_that_it_spoils(self):
        for places in ALL:
            net = by_rings(places)
            for p in places[::1 if len(places) < 10 else 5]:
                others = [q for q in places if q != p]
                less_one = by_rings(others)
                spoilt = [t for t in less_one if spoils(*t, p)]
                at_it = [t for t in net if p in t]
                self.assertEqual(put_in(others, less_one, p), (spoilt, at_it, net))
                self.assertEqual(taken_out(places, net, p), (at_it, spoilt, less_one))
                self.assertEqual(set(less_one) - set(spoilt), set(net) - set(at_it))

    def test_turned_over_a_wrong_side_makes_the_measures_fall_and_none_comes_again(self):
        for places in ALL:
            cover = swept(places)
            turns, net = turnings(cover)
            gone = []
            for went, came in turns:
                now = turned_over(cover, went)
                self.assertIn(went, wrong(cover))
                self.assertLess(measure(places, now), measure(places, cover))
                gone.append(went)
                cover = now
                self.assertFalse(set(gone) & set(sides_of(cover)))
            self.assertEqual(cover, net)

    def test_what_spoils_a_triangle_of_the_cover_with_kept_sides_is_shut_off(self):
        found = 0
        for places in FEW:
            for cover in all_covers(places)[:8]:
                kept = sides_of(cover)[::3]
                told = kept_net(places, kept)
                self.assertLessEqual(set(kept), set(ties(places, told)))
                for t in told:
                    for d in [p for p in places if spoils(*t, p)]:
                        self.assertIn(shut(kept, within(t), d), kept)
                        found += 1
        self.assertGreater(found, 50)

    def test_a_point_lies_in_a_land_just_where_no_other_place_is_nearer(self):
        for places in SMALL:
            told = lands(places, by_rings(places))
            for X in points_about(places)[::3]:
                for p, land in told:
                    self.assertEqual(in_land(p, land, X) != -1, all(nearer(X, q, p) != 1 for q in places))

    def test_from_the_lands_the_net_is_had_again(self):
        for places in ALL:
            net = by_halving(places)
            for order in orders(places)[:3]:
                self.assertEqual(net_of(lands(order, net)), net)

    def test_the_walk_from_any_place_leads_to_the_nearest(self):
        for places in SOME:
            net = by_rings(places)
            for X in points_about(places)[::7]:
                near = nearest(places, X)
                for start in places:
                    told = walk(places, net, start, X)
                    self.assertEqual((told[0], told[-1]), (start, near[0]))
                    joined = ties(places, net)
                    self.assertTrue(all(tuple(sorted(step)) in joined for step in zip(told, told[1:])))

    def test_the_least_ties_are_sides_of_the_net_and_none_on_a_way_is_longer(self):
        for places in ALL:
            told = tree(places)
            self.assertLessEqual(set(told), set(ties(places, by_rings(places))))
            self.assertEqual(told[0] if told else None, pair(places))
            for a, b in itertools.combinations(places, 2):
                steps = way(told, a, b)
                longest = square(a, point_of(b))
                for p, q in zip(steps, steps[1:]):
                    self.assertFalse(less(longest, square(p, point_of(q))))

    def test_nowhere_within_the_outline_is_a_point_farther_from_all_places_than_the_gap(self):
        for places in SMALL + LARGE[::3]:
            found = gap(places)
            if found is None:
                self.assertEqual(places, [])
                continue
            self.assertNotEqual(in_outline(places, found[0]), -1)
            self.assertEqual(square(nearest(places, found[0])[0], found[0]), found[1])
            points = points_about(places) + [middle(*t) for t in by_rings(places)]
            points += [halfway(a, b) for a, b in itertools.combinations(outline(places), 2)]
            for X in points:
                if in_outline(places, X) != -1:
                    self.assertFalse(less(found[1], square(nearest(places, X)[0], X)))

    def test_a_list_that_is_not_the_net_is_told_with_what_is_wrong(self):
        for places in FEW:
            net = by_rings(places)
            for cover in all_covers(places):
                self.assertEqual(fault(places, cover) is None, cover == net)
            for t in net:
                self.assertIsNotNone(fault(places, [one for one in net if one != t]))
                self.assertIsNotNone(fault(places, net + [t]))

    def test_a_page_tells_what_the_functions_tell(self):
        for places in SOME:
            names = {p: f"n{k}" for k, p in enumerate(places)}
            page = "".join(f"at {names[p]} {p[0]} {p[1]}\n" for p in places)
            net = by_rings(places)
            told = answers(page + "net\nborder\ntree\nnear 1 1\n" + f"walk {names[places[-1]]} 1 1\npair")[len(places):]
            self.assertEqual(told, [
                ", ".join(" ".join(names[p] for p in t) for t in net) or "none",
                " ".join(names[p] for p in outline(places)),
                ", ".join(" ".join(names[p] for p in side) for side in tree(places)),
                " ".join(names[p] for p in nearest(places, ((1, 1), (1, 1)))),
                " ".join(names[p] for p in walk(places, net, places[-1], ((1, 1), (1, 1)))),
                " ".join(names[p] for p in pair(places)),
            ])
            if net:
                judged = ", ".join(" ".join(names[p] for p in t) for t in net)
                self.assertEqual(answers(page + "judge " + judged)[-1], "good")

    def test_the_same_question_has_the_same_answer_at_any_time(self):
        ask = [by_turning, by_rings, by_putting, by_halving, outline, tree, gap, pair]
        before = [[one(places) for one in ask] for places in SOME]
        for places in SMALL:
            for one in ask:
                one(places)
        self.assertEqual([[one(places) for one in ask] for places in SOME], before)


if __name__ == "__main__":
    unittest.main()
