"""The nearest places to a point [35], and the walk there [36] [4]."""

import unittest

from exact import exact_net, exact_sides
from exact_more import exact_nearest, exact_walk
from nearland.errors import NearError, NoPlace
from nearland.walks import nearest, walk
from owning import assert_own
from samples import (
    ALL, CENTRED, FAN, FORTY, GRID_NINE, GRID_SIXTEEN, HEXAGON, LINES, ONE, RING, SQUARE, STRETCHES, TWO, orders,
    parts_of_a_grid, points_about,
)


def point(x, y):
    return ((x, 1), (y, 1))


class Nearest(unittest.TestCase):
    def test_of_no_place_and_of_one(self):
        self.assertEqual(nearest([], point(0, 0)), [])
        for X in points_about(ONE):
            self.assertEqual(nearest(ONE, X), ONE)

    def test_alike_near_ones_are_told_sorted(self):
        for order in orders(SQUARE):
            self.assertEqual(nearest(order, ((1, 2), (1, 2))), sorted(SQUARE))
            self.assertEqual(nearest(order, ((1, 2), (1, 3))), [(0, 0), (1, 0)])
            self.assertEqual(nearest(order, ((1, 2), (2, 3))), [(0, 1), (1, 1)])
            self.assertEqual(nearest(order, ((2, 3), (2, 3))), [(1, 1)])
        self.assertEqual(nearest(RING[::-1], point(0, 0)), sorted(RING))

    def test_at_a_place(self):
        for p in GRID_NINE:
            self.assertEqual(nearest(GRID_NINE, point(*p)), [p])

    def test_all_samples(self):
        for places in ALL:
            for X in points_about(places):
                given = list(places)
                self.assertEqual(nearest(places, X), exact_nearest(places, X), (places, X))
                self.assertEqual(places, given)

    def test_in_any_order(self):
        for places in [CENTRED, HEXAGON, STRETCHES, GRID_NINE]:
            for X in points_about(places):
                self.assertEqual([nearest(order, X) for order in orders(places)], [exact_nearest(places, X)] * 6)

    def test_three_hundred_figures(self):
        n = 10 ** 300 - 1
        places = [(-FORTY, 0), (FORTY, 0), (0, FORTY)]
        self.assertEqual(nearest(places, ((0, 1), (-n, 1))), [(-FORTY, 0), (FORTY, 0)])
        self.assertEqual(nearest(places, ((1, n), (-n, 1))), [(FORTY, 0)])
        self.assertEqual(nearest(places, ((-1, n), (-n, 1))), [(-FORTY, 0)])
        self.assertEqual(nearest(places, ((1, n), (1, n))), [(0, FORTY), (FORTY, 0)])
        self.assertEqual(nearest(places, ((1, n), (1, n - 1))), [(0, FORTY)])

    def test_the_told_list_belongs_to_whoever_asked(self):
        for places in [[], ONE, TWO, SQUARE]:
            assert_own(self, nearest, places, ((1, 2), (1, 2)))


class Walk(unittest.TestCase):
    def assert_walk(self, places, start, X, wanted):
        net = exact_net(places)
        for order in orders(places):
            given = (list(order), list(net))
            self.assertEqual(walk(order, net, start, X), wanted)
            self.assertEqual((order, net), given)

    def test_of_one_place_and_of_two(self):
        self.assert_walk(ONE, ONE[0], point(99, 99), ONE)
        self.assert_walk([(0, 0), (2, 0)], (0, 0), point(9, 9), [(0, 0), (2, 0)])
        self.assert_walk([(0, 0), (2, 0)], (2, 0), point(9, 9), [(2, 0)])
        self.assert_walk([(0, 0), (2, 0)], (2, 0), point(1, 9), [(2, 0), (0, 0)])
        self.assert_walk([(0, 0), (2, 0)], (0, 0), point(1, 9), [(0, 0)])

    def test_along_a_line(self):
        line = [(0, 4), (0, 1), (0, 0), (0, 9)]
        self.assert_walk(line, (0, 0), point(5, 8), [(0, 0), (0, 1), (0, 4), (0, 9)])
        self.assert_walk(line, (0, 9), point(-7, -7), [(0, 9), (0, 4), (0, 1), (0, 0)])
        self.assert_walk(line, (0, 0), ((0, 1), (5, 2)), [(0, 0), (0, 1)])
        self.assert_walk(line, (0, 9), ((0, 1), (5, 2)), [(0, 9), (0, 4), (0, 1)])

    def test_the_nearest_of_the_neighbours_not_just_a_nearer_one(self):
        self.assert_walk(CENTRED, (0, 0), point(4, 3), [(0, 0), (2, 2), (4, 4)])
        self.assert_walk(CENTRED, (0, 0), point(4, 1), [(0, 0), (4, 0)])
        self.assert_walk(CENTRED, (0, 0), point(4, 4), [(0, 0), (2, 2), (4, 4)])
        self.assert_walk(CENTRED, (0, 0), point(9, 9), [(0, 0), (2, 2), (4, 4)])
        self.assert_walk(FAN, (0, 0), point(5, 0), [(0, 0), (1, 0), (2, 0), (5, 0)])

    def test_of_alike_near_neighbours_the_least(self):
        # From (2, 2) both (0, 4) and (4, 4) are as near to the point, and nearer than it.
        self.assert_walk(CENTRED, (2, 2), point(2, 9), [(2, 2), (0, 4)])
        self.assert_walk(CENTRED, (2, 2), point(9, 2), [(2, 2), (4, 0)])
        self.assert_walk(CENTRED, (4, 0), point(2, 9), [(4, 0), (4, 4), (0, 4)])

    def test_where_all_are_as_near_it_ends_at_the_least(self):
        for p in SQUARE:
            wanted = [(0, 0)] if p == (0, 0) else [p, (0, 0)]
            self.assert_walk(SQUARE, p, ((1, 2), (1, 2)), wanted)
        for p in RING:
            self.assert_walk(RING, p, point(0, 0), [p] if p == (-5, 0) else [p, (-5, 0)])

    def test_to_a_place(self):
        for p in GRID_SIXTEEN:
            net = exact_net(GRID_SIXTEEN)
            for q in GRID_SIXTEEN:
                self.assertEqual(walk(GRID_SIXTEEN, net, p, point(*q))[-1], q)
            self.assertEqual(walk(GRID_SIXTEEN, net, p, point(*p)), [p])

    def test_from_each_place_of_each_sample(self):
        for places in ALL:
            net = exact_net(places)
            for X in points_about(places)[::1 if len(places) < 7 else 5]:
                for start in places[::1 if len(places) < 10 else 3]:
                    told = walk(places, net, start, X)
                    self.assertEqual(told, exact_walk(places, net, start, X), (places, start, X))
                    self.assertEqual(told[-1], exact_nearest(places, X)[0])

    def test_all_parts_of_a_grid(self):
        for places in parts_of_a_grid():
            net = exact_net(places)
            for X in [((1, 2), (1, 2)), point(1, 1), ((3, 2), (1, 2)), point(-3, 1), ((1, 1), (3, 2))]:
                for start in places[::3]:
                    self.assertEqual(walk(places, net, start, X)[-1], exact_nearest(places, X)[0])

    def test_each_step_goes_along_a_tie(self):
        for places in [CENTRED, STRETCHES, HEXAGON, GRID_NINE]:
            sides = exact_sides(exact_net(places))
            for start in places:
                for X in points_about(places):
                    told = walk(places, exact_net(places), start, X)
                    self.assertEqual(told[0], start)
                    self.assertTrue(all(tuple(sorted(step)) in sides for step in zip(told, told[1:])))

    def test_three_hundred_figures(self):
        n = 10 ** 300 - 1
        places = [(-FORTY, 0), (FORTY, 0), (0, FORTY)]
        self.assert_walk(places, (0, FORTY), ((1, n), (-n, 1)), [(0, FORTY), (FORTY, 0)])
        self.assert_walk(places, (0, FORTY), ((0, 1), (-n, 1)), [(0, FORTY), (-FORTY, 0)])
        self.assert_walk(places, (FORTY, 0), ((0, 1), (-n, 1)), [(FORTY, 0), (-FORTY, 0)])

    def test_a_start_that_is_none_of_the_places_is_refused(self):
        for places in [[], ONE, TWO, SQUARE, CENTRED, STRETCHES] + LINES:
            net = exact_net(places)
            given = (list(places), list(net))
            for start in [(7, 70), (-1, 30), (FORTY, -FORTY)]:
                for X in [point(0, 0), point(*start)]:
                    with self.assertRaises(NoPlace) as taken:
                        walk(places, net, start, X)
                    self.assertEqual(taken.exception.place, start)
                    self.assertIsInstance(taken.exception, NearError)
            self.assertEqual((places, net), given)

    def test_the_told_list_belongs_to_whoever_asked(self):
        for places in [ONE, TWO, SQUARE, CENTRED]:
            for start in places:
                assert_own(self, walk, places, exact_net(places), start, ((1, 2), (1, 2)))


if __name__ == "__main__":
    unittest.main()
