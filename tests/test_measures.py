"""The measures of places and a cover [17], and the sharpest corner of a cover [20]."""

import unittest

from exact import all_covers, exact_measure, exact_net, exact_sharpest, pair_of
from nearland.measures import measure, sharpest
from nearland.sweeps import swept
from samples import ALL, CENTRED, FEW, FORTY, GREAT, LINES, ONE, SQUARE, TWO, orders

LEAST_FAN = [((0, 0), (1, 0), (1, 1)), ((0, 0), (1, 1), (0, 1))]
OTHER_FAN = [((0, 0), (1, 0), (0, 1)), ((0, 1), (1, 0), (1, 1))]


class Measures(unittest.TestCase):
    def assert_measure(self, places, cover, wanted):
        for order in orders(places):
            given = (list(order), list(cover))
            made = measure(order, cover)
            self.assertEqual(made, wanted)
            self.assertEqual([number.__class__ for number in made], [int] * len(wanted))
            self.assertEqual((order, cover), given)

    def test_written_ones(self):
        self.assert_measure([(0, 0), (4, 0), (0, 3)], [((0, 0), (4, 0), (0, 3))], [300, -12, -12, -12])
        self.assert_measure([(-1, -2), (1, -2), (1, 3)], [((-1, -2), (1, -2), (1, 3))], [200, -10, -10, -10])
        self.assert_measure(SQUARE, LEAST_FAN, [6, -2, -1, -1, -2])
        self.assert_measure(SQUARE, OTHER_FAN, [6, -1, -2, -2, -1])

    def test_the_places_are_sorted(self):
        places = [(1, 1), (0, 0), (3, 0), (0, 3)]
        cover = [((0, 0), (1, 1), (0, 3)), ((0, 0), (3, 0), (1, 1)), ((0, 3), (1, 1), (3, 0))]
        self.assert_measure(places, cover, [3 * 11 + 3 * 11 + 3 * 20, -6, -6, -9, -6])

    def test_without_a_triangle_all_are_nought(self):
        self.assert_measure([], [], [0])
        self.assert_measure(ONE, [], [0, 0])
        self.assert_measure(TWO, [], [0, 0, 0])
        for places in LINES:
            self.assert_measure(places, [], [0] * (len(places) + 1))

    def test_forty_figures(self):
        cover = [((-FORTY, 0), (0, 0), (0, FORTY))]
        self.assert_measure(list(cover[0]), cover, [2 * FORTY ** 4] + [-FORTY ** 2] * 3)

    def test_all_samples(self):
        for places in ALL:
            for cover in [swept(places), exact_net(places)]:
                self.assert_measure(places, cover, exact_measure(places, cover))

    def test_of_all_covers_the_net_has_the_least_measures(self):
        for places in FEW:
            net = exact_net(places)
            for cover in all_covers(places):
                if cover != net:
                    self.assertLess(measure(places, net), measure(places, cover))

    def test_the_told_list_belongs_to_whoever_asked(self):
        places, cover = list(SQUARE), list(LEAST_FAN)
        first = measure(places, cover)
        first.append(9)
        second = measure(places, cover)
        self.assertEqual(second, [6, -2, -1, -1, -2])
        places.append((5, 5))
        cover.clear()
        self.assertEqual(second, [6, -2, -1, -1, -2])


class Sharpest(unittest.TestCase):
    def assert_sharpest(self, cover, wanted):
        given = list(cover)
        made = sharpest(cover)
        self.assertEqual(made, wanted)
        self.assertEqual([made.__class__, made[0].__class__, made[1].__class__], [tuple, int, int])
        self.assertEqual(cover, given)

    def test_none_of_no_triangle(self):
        self.assertIsNone(sharpest([]))

    def test_at_each_of_the_three_corners(self):
        self.assert_sharpest([((0, 0), (4, 0), (4, 3))], (4, 3))
        self.assert_sharpest([((0, 0), (3, 0), (0, 4))], (4, 3))
        self.assert_sharpest([((0, 0), (4, 0), (0, 3))], (4, 3))
        self.assert_sharpest([((0, 0), (5, 0), (1, 1))], (4, 1))

    def test_whole_ones_and_lowest_terms(self):
        self.assert_sharpest([((0, 0), (1, 0), (0, 1))], (1, 1))
        self.assert_sharpest([((0, 0), (6, 0), (0, 4))], (3, 2))

    def test_the_greatest_of_all_triangles(self):
        self.assert_sharpest([((0, 0), (1, 0), (1, 1)), ((0, 0), (1, 1), (0, 7))], (6, 1))
        self.assert_sharpest([((0, 0), (9, 0), (1, 1)), ((0, 0), (1, 1), (0, 2))], (8, 1))

    def test_forty_figures(self):
        self.assert_sharpest([((-FORTY, 0), (FORTY, 0), (0, 1))], (FORTY, 1))
        flat = ((0, 0), (FORTY, FORTY - 1), (FORTY - 1, FORTY - 1))
        self.assert_sharpest([flat], pair_of(exact_sharpest([flat])))

    def test_all_samples(self):
        for places in ALL:
            for cover in [swept(places), exact_net(places)]:
                if cover:
                    self.assert_sharpest(cover, pair_of(exact_sharpest(cover)))

    def test_that_of_the_net_is_no_greater_than_that_of_any_cover(self):
        for places in FEW + [CENTRED, GREAT[0]]:
            net = sharpest(exact_net(places))
            for cover in all_covers(places):
                if cover:
                    other = sharpest(cover)
                    self.assertLessEqual(net[0] * other[1], other[0] * net[1])


if __name__ == "__main__":
    unittest.main()
