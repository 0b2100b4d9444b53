"""The tree of places, the point halfway along its sides, and the way along it [38] [4]."""

import itertools
import unittest

from exact import exact_net, exact_square
from exact_more import exact_nearest, exact_ties, exact_tree
from nearland.numbers import point_of
from nearland.trees import halfway, tree, way
from owning import assert_own
from samples import ALL, CENTRED, FORTY, GRID_NINE, LINES, ONE, SMALL, SQUARE, TWO, orders, parts_of_a_grid


class Tree(unittest.TestCase):
    def assert_tree(self, places, wanted):
        for order in orders(places):
            given = list(order)
            self.assertEqual(tree(order), wanted)
            self.assertEqual(order, given)

    def test_of_no_place_one_and_two(self):
        self.assertEqual(tree([]), [])
        self.assertEqual(tree(ONE), [])
        self.assert_tree(TWO, [((-2, 7), (4, 1))])

    def test_the_less_far_apart_ones_first(self):
        self.assert_tree([(0, 0), (9, 0), (3, 0), (5, 0)], [
            ((3, 0), (5, 0)), ((0, 0), (3, 0)), ((5, 0), (9, 0)),
        ])
        self.assert_tree([(0, 0), (3, 4), (0, 9), (20, 0)], [
            ((0, 0), (3, 4)), ((0, 9), (3, 4)), ((3, 4), (20, 0)),
        ])

    def test_of_alike_ones_the_least_side_first(self):
        self.assert_tree(SQUARE, [((0, 0), (0, 1)), ((0, 0), (1, 0)), ((0, 1), (1, 1))])
        self.assert_tree(CENTRED, [((0, 0), (2, 2)), ((0, 4), (2, 2)), ((2, 2), (4, 0)), ((2, 2), (4, 4))])
        self.assert_tree(GRID_NINE, [
            ((0, 0), (0, 1)), ((0, 0), (1, 0)), ((0, 1), (0, 2)), ((0, 1), (1, 1)), ((0, 2), (1, 2)),
            ((1, 0), (2, 0)), ((1, 1), (2, 1)), ((1, 2), (2, 2)),
        ])

    def test_all_samples(self):
        for places in ALL:
            self.assertEqual(tree(places), exact_tree(places), places)

    def test_all_parts_of_a_grid(self):
        for places in parts_of_a_grid():
            self.assertEqual(tree(places), exact_tree(places), places)

    def test_one_fewer_than_places_and_all_of_them_ties(self):
        for places in ALL:
            told = tree(places)
            self.assertEqual(len(told), max(len(places) - 1, 0))
            self.assertLessEqual(set(told), set(exact_ties(places, exact_net(places))))

    def test_forty_figures_by_very_little(self):
        a, b, c = (-FORTY, 0), (0, 1), (FORTY, 0)
        self.assert_tree([c, b, a], [(a, b), (b, c)])
        self.assert_tree([(FORTY, FORTY), (-FORTY, FORTY), (0, -FORTY), (1, 1 - FORTY)], [
            ((0, -FORTY), (1, 1 - FORTY)), ((-FORTY, FORTY), (FORTY, FORTY)), ((1, 1 - FORTY), (FORTY, FORTY)),
        ])

    def test_the_told_list_belongs_to_whoever_asked(self):
        for places in [[], ONE, TWO, SQUARE]:
            assert_own(self, tree, places)


class Halfway(unittest.TestCase):
    def test_written_ones(self):
        for a, b, wanted in [
            ((0, 0), (4, 6), ((2, 1), (3, 1))), ((0, 0), (1, 0), ((1, 2), (0, 1))),
            ((-3, 2), (0, 5), ((-3, 2), (7, 2))),
            ((1, 1), (1, 1), ((1, 1), (1, 1))), ((-1, 4), (1, -4), ((0, 1), (0, 1))),
            ((FORTY, -FORTY), (FORTY, 0), ((FORTY, 1), (-FORTY, 2))),
        ]:
            self.assertEqual(halfway(a, b), wanted)
            self.assertEqual(halfway(b, a), wanted)

    def test_to_it_no_place_but_the_two_ends_is_as_near(self):
        for places in ALL + list(parts_of_a_grid()):
            for side in tree(places):
                self.assertEqual(exact_nearest(places, halfway(*side)), list(side))


class Way(unittest.TestCase):
    def test_written_ones(self):
        sides = [((0, 0), (0, 1)), ((0, 0), (1, 0)), ((0, 1), (1, 1))]
        for a, b, wanted in [
            ((0, 0), (0, 1), [(0, 0), (0, 1)]), ((1, 0), (1, 1), [(1, 0), (0, 0), (0, 1), (1, 1)]),
            ((1, 1), (1, 0), [(1, 1), (0, 1), (0, 0), (1, 0)]), ((1, 1), (0, 0), [(1, 1), (0, 1), (0, 0)]),
        ]:
            self.assertEqual(way(sides, a, b), wanted)

    def test_to_itself(self):
        self.assertEqual(way([], (3, -2), (3, -2)), [(3, -2)])
        for p in CENTRED:
            self.assertEqual(way(tree(CENTRED), p, p), [p])

    def test_along_a_line(self):
        for places in LINES:
            line = sorted(places)
            self.assertEqual(way(tree(places), line[0], line[-1]), line)
            self.assertEqual(way(tree(places), line[-1], line[0]), line[::-1])

    def test_the_one_way_there_is(self):
        for places in SMALL:
            sides = tree(places)
            for a, b in itertools.product(places, places):
                told = way(sides, a, b)
                self.assertEqual((told[0], told[-1]), (a, b))
                self.assertEqual(len(told), len(set(told)))
                self.assertTrue(all(tuple(sorted(step)) in sides for step in zip(told, told[1:])))

    def test_no_side_on_it_is_longer_than_the_two_are_apart(self):
        for places in ALL:
            sides = tree(places)
            for a, b in itertools.combinations(places, 2):
                told = way(sides, a, b)
                apart = exact_square(a, point_of(b))
                self.assertTrue(all(exact_square(p, point_of(q)) <= apart for p, q in zip(told, told[1:])))

    def test_the_told_list_belongs_to_whoever_asked(self):
        for a, b in itertools.product(SQUARE, SQUARE):
            assert_own(self, way, tree(SQUARE), a, b)
        assert_own(self, way, [], (1, 1), (1, 1))


if __name__ == "__main__":
    unittest.main()
