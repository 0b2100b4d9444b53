"""The net had again from the lands [34] [4]."""

import unittest

from exact import exact_net
from exact_more import exact_lands
from nearland.landback import net_of
from nearland.lands import lands
from nearland.putting import by_putting
from owning import assert_own
from samples import (
    ALL, CENTRED, FULL_RING, GRID_SIXTEEN, HEXAGON, LINES, ONE, RING, SQUARE, THREE, TWO, blown_up, orders,
    parts_of_a_grid, shaken,
)


class NetOf(unittest.TestCase):
    def test_without_three_off_a_line_there_is_none(self):
        for places in [[], ONE, TWO] + LINES:
            self.assertEqual(net_of(exact_lands(places)), [])

    def test_of_three(self):
        X = ((2, 1), (3, 2))
        some = [
            ((0, 0), [((4, 0), None, X), ((0, 3), X, None)]), ((0, 3), [((0, 0), None, X), ((4, 0), X, None)]),
            ((4, 0), [((0, 3), None, X), ((0, 0), X, None)]),
        ]
        self.assertEqual(net_of(some), [((0, 0), (4, 0), (0, 3))])
        self.assertEqual(net_of(exact_lands(THREE)), [((0, 0), (4, 0), (0, 3))])

    def test_more_than_three_at_one_point(self):
        self.assertEqual(net_of(exact_lands(SQUARE)), [((0, 0), (1, 0), (1, 1)), ((0, 0), (1, 1), (0, 1))])
        self.assertEqual(net_of(exact_lands(HEXAGON)), [
            ((-5, 0), (-4, -3), (4, -3)), ((-5, 0), (3, 4), (-3, 4)),
            ((-5, 0), (4, -3), (5, 0)), ((-5, 0), (5, 0), (3, 4)),
        ])

    def test_all_on_one_ring_from_each_place_as_the_least(self):
        # Turned and mirrored, each place of the ring is once the least.
        for k in range(1, len(RING)):
            places = RING[k:] + RING[:k]
            for some in [places[:7], places[::2], [(y, x) for x, y in places[:6]]]:
                self.assertEqual(net_of(exact_lands(some)), exact_net(some))

    def test_several_points(self):
        self.assertEqual(net_of(exact_lands(CENTRED)), exact_net(CENTRED))
        self.assertEqual(net_of(exact_lands(FULL_RING)), exact_net(FULL_RING))
        self.assertEqual(net_of(exact_lands(GRID_SIXTEEN)), exact_net(GRID_SIXTEEN))

    def test_all_samples(self):
        for places in ALL:
            self.assertEqual(net_of(exact_lands(places)), exact_net(places), places)

    def test_all_parts_of_a_grid(self):
        for places in parts_of_a_grid():
            self.assertEqual(net_of(exact_lands(places)), exact_net(places), places)

    def test_forty_figures(self):
        for places in [blown_up(RING, 10 ** 39, 0, 0), shaken(blown_up(RING, 10 ** 39, 0, 0))]:
            self.assertEqual(net_of(exact_lands(places)), exact_net(places))

    def test_from_the_net_and_back(self):
        for places in ALL:
            for order in orders(places)[:2]:
                net = by_putting(order)
                self.assertEqual(net_of(lands(order, net)), net)

    def test_the_told_list_belongs_to_whoever_asked(self):
        for places in [[], ONE, TWO, SQUARE, CENTRED]:
            assert_own(self, net_of, exact_lands(places))


if __name__ == "__main__":
    unittest.main()
