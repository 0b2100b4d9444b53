"""The nearest pair [37]."""

import unittest

from exact import exact_net
from exact_more import exact_pairs, exact_ties
from nearland.pairs import pair
from samples import ALL, CENTRED, FORTY, GRID_NINE, ONE, SQUARE, TWO, orders, parts_of_a_grid


class Pair(unittest.TestCase):
    def assert_pair(self, places, wanted):
        for order in orders(places):
            given = list(order)
            self.assertEqual(pair(order), wanted)
            self.assertEqual(order, given)

    def test_of_fewer_than_two_there_is_none(self):
        self.assertIsNone(pair([]))
        self.assertIsNone(pair(ONE))

    def test_of_two(self):
        self.assert_pair(TWO, ((-2, 7), (4, 1)))
        self.assert_pair([(0, 5), (0, -5)], ((0, -5), (0, 5)))

    def test_written_ones(self):
        self.assert_pair([(0, 0), (9, 9), (4, 3), (0, 6), (9, 5)], ((9, 5), (9, 9)))
        self.assert_pair([(0, 0), (5, 5), (3, 4), (9, 9)], ((3, 4), (5, 5)))

    def test_of_alike_ones_the_least(self):
        self.assert_pair(SQUARE, ((0, 0), (0, 1)))
        self.assert_pair(GRID_NINE, ((0, 0), (0, 1)))
        self.assert_pair(CENTRED, ((0, 0), (2, 2)))
        self.assert_pair([(5, 0), (9, 0), (5, 4), (0, 0)], ((5, 0), (5, 4)))
        self.assert_pair([(5, 0), (0, 9), (0, 4), (-3, 0)], ((-3, 0), (0, 4)))

    def test_all_samples(self):
        for places in ALL:
            self.assertEqual(pair(places), exact_pairs(places)[0] if len(places) > 1 else None)

    def test_it_is_a_tie(self):
        for places in ALL + list(parts_of_a_grid()):
            if len(places) > 1:
                self.assertIn(pair(places), exact_ties(places, exact_net(places)))

    def test_forty_figures_by_very_little(self):
        far = [(-FORTY, -FORTY), (FORTY, FORTY), (-FORTY, FORTY - 1), (FORTY, -FORTY)]
        self.assert_pair(far, ((-FORTY, -FORTY), (-FORTY, FORTY - 1)))
        self.assert_pair([(0, 0), (FORTY, 1), (-FORTY, 0)], ((-FORTY, 0), (0, 0)))


if __name__ == "__main__":
    unittest.main()
