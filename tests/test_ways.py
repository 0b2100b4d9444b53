"""The net by turning [20], rings [21], putting in [23], halving [24]: all lead to one list [25], the net [14] [4]."""

import itertools
import unittest

from exact import all_covers, exact_net, spoils_kept, what_is_no_cover
from nearland.covers import fault
from nearland.halving import by_halving
from nearland.putting import by_putting
from nearland.ringways import by_rings
from nearland.turning import by_turning, turnings
from samples import (
    ALL, CENTRED, FEW, FORTY, GRID_NINE, HEXAGON, LARGE, LINES, ONE, SQUARE, THREE, TWO, blown_up, orders,
    parts_of_a_grid, scattered, shaken,
)

WAYS = [by_turning, by_rings, by_putting, by_halving]


class EachWay(unittest.TestCase):
    def assert_net(self, places, wanted):
        for way in WAYS:
            for order in orders(places):
                given = list(order)
                with self.subTest(way=way.__name__, places=order):
                    self.assertEqual(way(order), wanted)
                    self.assertEqual(order, given)

    def test_no_triangle_without_three_off_a_line(self):
        for places in [[], ONE, TWO] + LINES:
            self.assert_net(places, [])

    def test_written_ones(self):
        self.assert_net(THREE, [((0, 0), (4, 0), (0, 3))])
        self.assert_net(SQUARE, [((0, 0), (1, 0), (1, 1)), ((0, 0), (1, 1), (0, 1))])
        self.assert_net(CENTRED, [
            ((0, 0), (2, 2), (0, 4)), ((0, 0), (4, 0), (2, 2)), ((0, 4), (2, 2), (4, 4)), ((2, 2), (4, 0), (4, 4)),
        ])

    def test_several_on_one_ring_are_a_fan_from_the_least(self):
        self.assert_net(HEXAGON, [
            ((-5, 0), (-4, -3), (4, -3)), ((-5, 0), (3, 4), (-3, 4)),
            ((-5, 0), (4, -3), (5, 0)), ((-5, 0), (5, 0), (3, 4)),
        ])

    def test_a_grid_has_a_fan_from_the_least_in_each_square(self):
        wanted = []
        for x, y in [(0, 0), (0, 1), (1, 0), (1, 1)]:
            wanted.append(((x, y), (x + 1, y), (x + 1, y + 1)))
            wanted.append(((x, y), (x + 1, y + 1), (x, y + 1)))
        self.assert_net(GRID_NINE, sorted(wanted))

    def test_forty_figures_by_very_little(self):
        k = 10 ** 38
        a, b, c = (-3 * k, 4 * k), (0, -5 * k), (5 * k, 0)
        on, below = (3 * k, -4 * k), (3 * k, -4 * k - 1)
        self.assert_net([c, a, b, on], [(a, b, on), (a, on, c)])
        self.assert_net([c, a, b, below], [(a, b, c), (b, below, c)])

    def test_all_samples(self):
        for places in ALL:
            self.assert_net(places, exact_net(places))

    def test_every_order_of_some(self):
        for places in [SQUARE, CENTRED, HEXAGON[:5], LINES[1] + [(3, 3)]]:
            wanted = exact_net(places)
            for order in itertools.permutations(places):
                for way in WAYS:
                    self.assertEqual(way(list(order)), wanted)

    def test_all_parts_of_a_grid(self):
        for places in parts_of_a_grid():
            wanted = exact_net(places)
            for way in WAYS:
                self.assertEqual(way(places), wanted)

    def test_the_told_list_belongs_to_whoever_asked(self):
        for way in WAYS:
            for sample in [[], ONE, LINES[0], SQUARE]:
                places = list(sample)
                way(places).append("more")
                told = way(places)
                places.clear()
                self.assertEqual(told, exact_net(sample))


class OneList(unittest.TestCase):
    def assert_one_list(self, places):
        nets = [way(order) for way in WAYS for order in orders(places)]
        self.assertEqual(nets, [nets[0]] * len(nets))
        self.assertIsNone(fault(places, nets[0]))
        return nets[0]

    def test_it_is_the_cover_of_which_no_place_spoils_a_triangle(self):
        for places in ALL:
            net = self.assert_one_list(places)
            self.assertIsNone(what_is_no_cover(places, net))
            self.assertFalse([t for t in net if any(spoils_kept(*t, d) for d in places)])

    def test_no_other_cover_is_one(self):
        for places in FEW:
            covers = all_covers(places)
            found = [cover for cover in covers if not any(spoils_kept(*t, d) for t in cover for d in places)]
            self.assertEqual(found, [by_rings(places)])

    def test_turning_from_any_cover_leads_there_too(self):
        for places in FEW:
            for cover in all_covers(places):
                self.assertEqual(turnings(cover)[1], by_putting(places))

    def test_sixteen_strewn_places_near_and_far(self):
        for seed in range(40, 52):
            for span in (5, 6, 7, 12):
                places = scattered(seed, 16, span)
                self.assert_one_list(places)
                self.assert_one_list(shaken(blown_up(places, 10 ** 39, 3, -2)))

    def test_the_same_at_any_time(self):
        for places in LARGE:
            before = [way(places) for way in WAYS]
            for way in WAYS:
                way([(0, 0), (FORTY, 1), (1, FORTY)])
            self.assertEqual([way(places) for way in WAYS], before)
            self.assertEqual(before[0], exact_net(places))


if __name__ == "__main__":
    unittest.main()
