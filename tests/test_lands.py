"""Headings and borders [31], the land of a place [32], and the lands of all [34]."""

import itertools
import unittest

from exact import exact_net, exact_square
from exact_more import exact_heading, exact_land, exact_lands
from nearland.errors import NearError, NoPlace
from nearland.lands import heading, land, lands
from owning import assert_own
from samples import (
    ALL, CENTRED, FORTY, GRID_NINE, HEXAGON, LINES, ONE, SMALL, SQUARE, STRETCHES, THREE, TWO, orders,
    parts_of_a_grid, scattered,
)


def point(x, y):
    return ((x, 1), (y, 1))


class Heading(unittest.TestCase):
    def test_written_ones(self):
        for p, q, wanted in [
            ((0, 0), (1, 0), (0, 1)), ((0, 0), (0, 1), (-1, 0)), ((0, 0), (7, 0), (0, 1)),
            ((0, 0), (0, 7), (-1, 0)), ((0, 0), (-7, 0), (0, -1)), ((0, 0), (0, -7), (1, 0)),
            ((0, 0), (6, 4), (-2, 3)), ((0, 0), (-6, 4), (-2, -3)), ((0, 0), (6, -4), (2, 3)),
            ((0, 0), (-6, -4), (2, -3)), ((3, 5), (6, 9), (-4, 3)), ((6, 9), (3, 5), (4, -3)),
            ((2, 2), (5, 5), (-1, 1)), ((-1, -1), (2, 5), (-2, 1)),
        ]:
            self.assertEqual(heading(p, q), wanted)

    def test_all_pairs_of_a_grid(self):
        grid = [(x, y) for x in range(-3, 4) for y in range(-2, 3)]
        for p, q in itertools.permutations(grid, 2):
            self.assertEqual(heading(p, q), exact_heading(p, q))

    def test_the_place_lies_at_the_left_hand(self):
        for p, q in itertools.permutations(GRID_NINE, 2):
            h = heading(p, q)
            self.assertGreater(h[0] * (p[1] - q[1]) - h[1] * (p[0] - q[0]), 0)

    def test_forty_figures(self):
        self.assertEqual(heading((-FORTY, -FORTY), (FORTY, FORTY)), (-1, 1))
        self.assertEqual(heading((FORTY, 0), (0, FORTY - 1)), (1 - FORTY, -FORTY))
        self.assertEqual(heading((0, 0), (FORTY, 3)), (-1, FORTY // 3))


class Land(unittest.TestCase):
    def assert_land(self, places, p, wanted):
        net = exact_net(places)
        for order in orders(places):
            given = (list(order), list(net))
            self.assertEqual(land(order, net, p), wanted)
            self.assertEqual((order, net), given)

    def test_of_one_place_and_of_two(self):
        self.assert_land(ONE, ONE[0], [])
        self.assert_land(TWO, TWO[0], [(TWO[1], None, None)])
        self.assert_land(TWO, TWO[1], [(TWO[0], None, None)])

    def test_on_a_line(self):
        line = [(2, 2), (0, 0), (1, 1)]
        self.assert_land(line, (0, 0), [((1, 1), None, None)])
        self.assert_land(line, (1, 1), [((0, 0), None, None), ((2, 2), None, None)])
        self.assert_land(line, (2, 2), [((1, 1), None, None)])
        down = [(0, 9), (0, 4), (0, 7), (0, 0)]
        self.assert_land(down, (0, 7), [((0, 4), None, None), ((0, 9), None, None)])
        self.assert_land(down, (0, 0), [((0, 4), None, None)])

    def test_of_three(self):
        X = ((2, 1), (3, 2))
        self.assert_land(THREE, (0, 0), [((4, 0), None, X), ((0, 3), X, None)])
        self.assert_land(THREE, (4, 0), [((0, 3), None, X), ((0, 0), X, None)])
        self.assert_land(THREE, (0, 3), [((0, 0), None, X), ((4, 0), X, None)])

    def test_on_a_ring_only_those_next_to_one_another_have_borders(self):
        X = ((1, 2), (1, 2))
        self.assert_land(SQUARE, (0, 0), [((1, 0), None, X), ((0, 1), X, None)])
        self.assert_land(SQUARE, (1, 0), [((1, 1), None, X), ((0, 0), X, None)])
        self.assert_land(SQUARE, (1, 1), [((0, 1), None, X), ((1, 0), X, None)])
        self.assert_land(SQUARE, (0, 1), [((0, 0), None, X), ((1, 1), X, None)])
        self.assert_land(HEXAGON, (-5, 0), [((-4, -3), None, point(0, 0)), ((-3, 4), point(0, 0), None)])
        self.assert_land(HEXAGON, (4, -3), [((5, 0), None, point(0, 0)), ((-4, -3), point(0, 0), None)])

    def test_a_round_one_begins_with_the_least(self):
        wanted = [
            ((0, 0), point(0, 2), point(2, 0)), ((4, 0), point(2, 0), point(4, 2)),
            ((4, 4), point(4, 2), point(2, 4)), ((0, 4), point(2, 4), point(0, 2)),
        ]
        self.assert_land(CENTRED, (2, 2), wanted)
        grid = [
            ((0, 1), ((1, 2), (3, 2)), ((1, 2), (1, 2))), ((1, 0), ((1, 2), (1, 2)), ((3, 2), (1, 2))),
            ((2, 1), ((3, 2), (1, 2)), ((3, 2), (3, 2))), ((1, 2), ((3, 2), (3, 2)), ((1, 2), (3, 2))),
        ]
        self.assert_land(GRID_NINE, (1, 1), grid)

    def test_one_without_a_start_stands_first(self):
        wanted = [
            ((4, 0), None, point(2, 0)), ((2, 2), point(2, 0), point(0, 2)), ((0, 4), point(0, 2), None),
        ]
        self.assert_land(CENTRED, (0, 0), wanted)
        # The least neighbour is not the one without a start.
        wanted = [
            ((4, 4), None, point(4, 2)), ((2, 2), point(4, 2), point(2, 0)), ((0, 0), point(2, 0), None),
        ]
        self.assert_land(CENTRED, (4, 0), wanted)

    def test_on_a_straight_stretch_of_the_outline(self):
        places = [(0, 0), (2, 0), (4, 0), (2, 3)]
        left, right = ((1, 1), (3, 2)), ((3, 1), (3, 2))
        self.assert_land(places, (2, 0), [((4, 0), None, right), ((2, 3), right, left), ((0, 0), left, None)])

    def test_each_place_of_each_sample(self):
        for places in ALL:
            net = exact_net(places)
            for p in places:
                self.assertEqual(land(places, net, p), exact_land(places, p), (places, p))

    def test_each_goes_on_where_the_one_ahead_ends(self):
        for places in SMALL:
            for p in places:
                told = land(places, exact_net(places), p)
                for one, following in zip(told, told[1:]):
                    self.assertEqual(one[2], following[1])
                if told:
                    self.assertEqual(told[-1][2], told[0][1])

    def test_borders_go_in_the_heading_and_are_as_near_to_both(self):
        for places in SMALL:
            for p in places:
                for q, start, end in land(places, exact_net(places), p):
                    for X in [start, end]:
                        if X is not None:
                            self.assertEqual(exact_square(p, X), exact_square(q, X))
                            self.assertFalse([r for r in places if exact_square(r, X) < exact_square(p, X)])
                    if start is not None and end is not None:
                        h = heading(p, q)
                        along = [end[k][0] * start[k][1] - start[k][0] * end[k][1] for k in (0, 1)]
                        self.assertGreater(along[0] * h[0] + along[1] * h[1], 0)

    def test_both_lands_have_a_border_back_to_back(self):
        for places in SMALL:
            net = exact_net(places)
            for p in places:
                for q, start, end in land(places, net, p):
                    self.assertIn((p, end, start), land(places, net, q))

    def test_what_is_none_of_the_places_is_refused(self):
        for places in [[], ONE, TWO, SQUARE, CENTRED, STRETCHES] + LINES:
            net = exact_net(places)
            given = (list(places), list(net))
            for p in [(7, 70), (-1, 30), (FORTY, -FORTY)]:
                with self.assertRaises(NoPlace) as taken:
                    land(places, net, p)
                self.assertEqual(taken.exception.place, p)
                self.assertIsInstance(taken.exception, NearError)
            self.assertEqual((places, net), given)

    def test_the_told_list_belongs_to_whoever_asked(self):
        for places in [ONE, TWO, CENTRED, GRID_NINE]:
            for p in places:
                assert_own(self, land, places, exact_net(places), p)


class Lands(unittest.TestCase):
    def test_of_no_place_and_of_one(self):
        self.assertEqual(lands([], []), [])
        self.assertEqual(lands(ONE, []), [(ONE[0], [])])

    def test_of_two(self):
        self.assertEqual(lands(TWO, []), [((-2, 7), [((4, 1), None, None)]), ((4, 1), [((-2, 7), None, None)])])

    def test_in_any_order(self):
        for places in SMALL:
            wanted = exact_lands(places)
            net = exact_net(places)
            for order in orders(places):
                given = (list(order), list(net))
                self.assertEqual(lands(order, net), wanted)
                self.assertEqual((order, net), given)

    def test_all_samples(self):
        for places in ALL:
            self.assertEqual(lands(places, exact_net(places)), exact_lands(places), places)

    def test_all_parts_of_a_grid(self):
        for places in parts_of_a_grid():
            self.assertEqual(lands(places, exact_net(places)), exact_lands(places), places)

    def test_sixteen_far_strewn(self):
        places = scattered(77, 16, 10 ** 19)
        places = [(x * FORTY // 10 ** 19, y * FORTY // 10 ** 19) for x, y in places]
        self.assertEqual(lands(places, exact_net(places)), exact_lands(places))

    def test_the_told_lists_belong_to_whoever_asked(self):
        for places in [[], ONE, TWO, CENTRED]:
            assert_own(self, lands, places, exact_net(places))


if __name__ == "__main__":
    unittest.main()
