"""Whether a point lies within an outline [39], and the gap [40] [4]."""

import unittest
from fractions import Fraction

from exact import exact_square, pair_of
from exact_more import exact_gap, exact_in_outline
from nearland.gaps import gap, in_outline
from samples import (
    ALL, CENTRED, FAN, FORTY, GRID_NINE, GRID_SIXTEEN, HEXAGON, LARGE, ONE, RING, SMALL, SQUARE, STRETCHES,
    THREE, TWO, blown_up, orders, parts_of_a_grid, points_about, scattered,
)


def point(x, y):
    return (pair_of(Fraction(x)), pair_of(Fraction(y)))


def half(number):
    return Fraction(number, 2)


class InOutline(unittest.TestCase):
    def assert_lies(self, places, X, wanted):
        for order in orders(places):
            given = list(order)
            self.assertEqual(in_outline(order, X), wanted, (places, X))
            self.assertEqual(order, given)

    def test_of_no_place_all_is_outside(self):
        for X in [point(0, 0), point(half(1), -FORTY)]:
            self.assertEqual(in_outline([], X), -1)

    def test_of_one_place(self):
        self.assertEqual(in_outline([(3, -2)], point(3, -2)), 0)
        for X in [point(3, -1), point(2, -2), point(half(7), -2), point(3, half(-5)), point(4, -2), point(0, 0)]:
            self.assertEqual(in_outline([(3, -2)], X), -1)

    def test_on_a_line(self):
        line = [(0, 0), (4, 2), (2, 1)]
        for X in [point(0, 0), point(4, 2), point(2, 1), point(1, half(1)), point(3, half(3))]:
            self.assert_lies(line, X, 0)
        for X in [point(-1, half(-1)), point(5, half(5)), point(1, 1), point(1, 0), point(6, 3), point(-2, -1)]:
            self.assert_lies(line, X, -1)
        upright = [(7, 5), (7, -1)]
        for y, wanted in [(-1, 0), (5, 0), (half(3), 0), (half(11), -1), (-2, -1)]:
            self.assert_lies(upright, point(7, y), wanted)
            self.assert_lies(upright, point(half(15), y), -1)

    def test_within_on_and_outside(self):
        for X, wanted in [
            (point(1, 1), 1), (point(half(1), half(1)), 1), (point(0, 0), 0), (point(2, half(3)), 0), (point(4, 0), 0),
            (point(1, 0), 0), (point(0, 2), 0), (point(5, 0), -1), (point(-1, 0), -1), (point(0, 4), -1),
            (point(2, half(4)), -1), (point(half(-1), 1), -1), (point(1, half(-1)), -1),
        ]:
            self.assert_lies(THREE, X, wanted)

    def test_on_straight_stretches(self):
        for X, wanted in [
            (point(1, 0), 0), (point(2, 0), 0), (point(half(7), 0), 0), (point(5, half(7)), 0), (point(0, half(1)), 0),
            (point(6, 0), -1), (point(5, 5), -1), (point(-1, 4), -1), (point(2, 2), 1), (point(half(9), half(7)), 1),
        ]:
            self.assert_lies(STRETCHES, X, wanted)

    def test_all_samples(self):
        for places in ALL:
            if len(places) < 9:
                for X in points_about(places):
                    self.assertEqual(in_outline(places, X), exact_in_outline(places, X), (places, X))

    def test_sixteen_places(self):
        for places in LARGE:
            for X in points_about(places)[::11]:
                self.assertEqual(in_outline(places, X), exact_in_outline(places, X), (places, X))

    def test_three_hundred_figures(self):
        n = 10 ** 300 - 1
        for x, wanted in [((n - 1, n), 1), ((1, 1), 0), ((n, n - 1), -1), ((1, n), 1), ((0, 1), 0), ((-1, n), -1)]:
            self.assert_lies(SQUARE, (x, (1, 2)), wanted)
            self.assert_lies(SQUARE, ((1, 2), x), wanted)
        for x, wanted in [((n - 1, n), 0), ((n, n - 1), -1), ((-1, n), -1), ((1, n), 0)]:
            self.assert_lies([(0, 0), (1, 0)], (x, (0, 1)), wanted)
            self.assert_lies([(0, 0), (1, 0)], (x, (1, n)), -1)


class Gap(unittest.TestCase):
    def assert_gap(self, places, X, square):
        for order in orders(places):
            given = list(order)
            self.assertEqual(gap(order), (X, pair_of(Fraction(square))), places)
            self.assertEqual(order, given)

    def test_of_no_place_and_of_one(self):
        self.assertIsNone(gap([]))
        self.assert_gap(ONE, ((3, 1), (-2, 1)), 0)

    def test_of_two(self):
        self.assert_gap(TWO, point(1, 4), 18)
        self.assert_gap([(0, 0), (0, 1)], point(0, half(1)), Fraction(1, 4))

    def test_on_a_line(self):
        self.assert_gap([(0, 0), (9, 0), (3, 0), (5, 0)], point(7, 0), 4)
        self.assert_gap([(0, 0), (4, 4), (1, 1), (6, 6)], point(half(5), half(5)), half(9))

    def test_amid_a_ring(self):
        self.assert_gap(SQUARE, point(half(1), half(1)), half(1))
        self.assert_gap(HEXAGON, point(0, 0), 25)
        self.assert_gap(RING, point(0, 0), 25)
        self.assert_gap([(0, 0), (4, 1), (1, 4)], point(Fraction(17, 10), Fraction(17, 10)), Fraction(289, 50))

    def test_on_the_outline(self):
        # The middle of the ring round a blunt triangle lies outside: the gap lies on the longest side.
        self.assert_gap([(0, 0), (10, 0), (1, 1)], point(Fraction(49, 9), 0), Fraction(1681, 81))
        self.assert_gap(THREE, point(2, half(3)), Fraction(25, 4))

    def test_of_several_alike_the_leftmost_and_lowest(self):
        self.assert_gap([(0, 0), (10, 0), (5, 1)], point(Fraction(13, 5), 0), Fraction(169, 25))
        self.assert_gap([(0, 0), (0, 10), (1, 5)], point(0, Fraction(13, 5)), Fraction(169, 25))
        self.assert_gap(GRID_NINE, point(half(1), half(1)), half(1))
        self.assert_gap([(x, -y) for x, y in GRID_SIXTEEN], point(half(1), half(-5)), half(1))
        self.assert_gap([(0, 0), (2, 0), (4, 0)], point(1, 0), 1)
        self.assert_gap([(0, 4), (0, 2), (0, 0)], point(0, 1), 1)
        self.assert_gap(CENTRED, point(0, 2), 4)
        # Here one that is farther right or higher is met first, whichever way the triangles are gone through.
        self.assert_gap([(0, 4), (3, 3), (4, 0)], point(Fraction(5, 4), Fraction(11, 4)), Fraction(25, 8))
        self.assert_gap([(0, 2), (1, 5), (5, 2), (6, 0)], point(half(5), Fraction(7, 6)), Fraction(125, 18))
        self.assert_gap([(0, 0), (0, 2), (2, 3), (5, 6), (6, 3)], point(4, 2), 5)

    def test_all_samples(self):
        for places in SMALL + ALL[len(SMALL):-len(LARGE)] + LARGE[::4]:
            self.assertEqual(gap(places), exact_gap(places), places)

    def test_all_parts_of_a_grid(self):
        for places in parts_of_a_grid():
            self.assertEqual(gap(places), exact_gap(places), places)

    def test_forty_figures(self):
        k = 10 ** 39
        self.assert_gap(blown_up(SQUARE, k, 3, -3), point(half(k) + 3, half(k) - 3), half(k * k))
        self.assert_gap([(-FORTY, -FORTY), (FORTY, FORTY)], point(0, 0), 2 * FORTY ** 2)
        for places in [blown_up(FAN, k, 0, 0), scattered(5, 7, 10 ** 19)]:
            self.assertEqual(gap(places), exact_gap(places))

    def test_nowhere_in_the_outline_is_a_point_farther_off(self):
        strewn = [scattered(seed, 6, 9) for seed in range(90, 96)]
        for places in [FAN, CENTRED, STRETCHES, HEXAGON, THREE, GRID_NINE] + strewn:
            told, square = gap(places)
            self.assertNotEqual(in_outline(places, told), -1)
            self.assertEqual(min(exact_square(p, told) for p in places), Fraction(*square))
            xs, ys = zip(*places)
            for right in range(25):
                for up in range(25):
                    x = min(xs) + Fraction(right * (max(xs) - min(xs)), 24)
                    y = min(ys) + Fraction(up * (max(ys) - min(ys)), 24)
                    if in_outline(places, point(x, y)) != -1:
                        self.assertLessEqual(min(exact_square(p, point(x, y)) for p in places), Fraction(*square))

    def test_what_was_told_stays(self):
        places = list(CENTRED)
        told = gap(places)
        places.clear()
        self.assertEqual(told, (point(0, 2), (4, 1)))
        self.assertEqual(gap(CENTRED), told)


if __name__ == "__main__":
    unittest.main()
