"""Where two sides meet [27], and which kept side shuts a place off from a point [30]."""

import itertools
import unittest

from exact import side
from exact_more import exact_meets, exact_shut
from nearland.crossings import meets, shut
from nearland.numbers import fraction, point_of
from samples import FORTY, scattered

GRID = [(x, y) for x in range(4) for y in range(3)]
SIDES = sorted(side(a, b) for a, b in itertools.combinations(GRID, 2))


def point(x, x_bottom, y, y_bottom):
    return (fraction(x, x_bottom), fraction(y, y_bottom))


class Meets(unittest.TestCase):
    def assert_meets(self, one, other, wanted):
        for first, second in [(one, other), (other, one)]:
            self.assertIs(meets(first, second), wanted, (first, second))

    def test_amid_both(self):
        self.assert_meets(((0, 0), (4, 4)), ((0, 4), (4, 0)), True)
        self.assert_meets(((0, 0), (1, 9)), ((0, 9), (1, 0)), True)

    def test_in_an_end_of_both(self):
        self.assert_meets(((0, 0), (4, 4)), ((4, 4), (8, 0)), False)
        self.assert_meets(((0, 0), (4, 4)), ((0, 0), (4, 5)), False)
        self.assert_meets(((0, 0), (4, 4)), ((4, 4), (8, 8)), False)
        self.assert_meets(((0, 0), (4, 4)), ((-3, 5), (4, 4)), False)

    def test_in_an_end_of_one(self):
        self.assert_meets(((0, 0), (4, 4)), ((2, 2), (8, 0)), True)
        self.assert_meets(((0, 0), (4, 4)), ((1, 9), (3, 3)), True)
        self.assert_meets(((0, 0), (0, 4)), ((0, 1), (5, 1)), True)

    def test_along_a_stretch(self):
        self.assert_meets(((0, 0), (4, 4)), ((2, 2), (8, 8)), True)
        self.assert_meets(((0, 0), (4, 4)), ((1, 1), (2, 2)), True)
        self.assert_meets(((0, 0), (4, 4)), ((0, 0), (2, 2)), True)
        self.assert_meets(((0, 0), (4, 4)), ((2, 2), (4, 4)), True)
        self.assert_meets(((0, 0), (0, 9)), ((0, -2), (0, 1)), True)

    def test_itself(self):
        for one in SIDES:
            self.assertIs(meets(one, one), True)
        self.assertIs(meets(((0, 0), (4, 4)), tuple([(0, 0), (4, 4)])), True)

    def test_apart(self):
        self.assert_meets(((0, 0), (4, 4)), ((1, 0), (5, 4)), False)
        self.assert_meets(((0, 0), (4, 4)), ((5, 5), (8, 8)), False)
        self.assert_meets(((0, 0), (4, 4)), ((3, 0), (9, 9)), False)
        self.assert_meets(((0, 0), (4, 4)), ((5, 9), (5, 0)), False)
        self.assert_meets(((0, 0), (9, 0)), ((4, 1), (5, 8)), False)

    def test_all_sides_of_a_grid(self):
        for one, other in itertools.product(SIDES, SIDES):
            self.assertIs(meets(one, other), exact_meets(one, other), (one, other))

    def test_strewn_ones(self):
        places = scattered(3, 14, 10 ** 12)
        sides = [side(a, b) for a, b in itertools.combinations(places, 2)]
        for one, other in itertools.combinations(sides[::2], 2):
            self.assertIs(meets(one, other), exact_meets(one, other), (one, other))

    def test_forty_figures_by_very_little(self):
        long = ((-FORTY, -FORTY), (FORTY, FORTY))
        self.assert_meets(long, ((0, 0), (0, FORTY)), True)
        self.assert_meets(long, ((0, 1), (0, FORTY)), False)
        self.assert_meets(long, ((0, 1), (1, 0)), True)
        self.assert_meets(long, ((0, 1), (FORTY, FORTY)), False)
        self.assert_meets(long, ((FORTY - 1, FORTY - 1), (FORTY, -FORTY)), True)


class Shut(unittest.TestCase):
    def assert_shut(self, one, X, d, wanted):
        self.assertEqual(shut([one], X, d), one if wanted else None, (one, X, d))

    def test_amid_the_way(self):
        self.assert_shut(((0, 0), (0, 4)), point(-1, 2, 1, 3), (5, 1), True)
        self.assert_shut(((0, 0), (0, 4)), point(1, 2, 1, 3), (5, 1), False)
        self.assert_shut(((0, 0), (0, 4)), point(-1, 2, 1, 3), (-5, 1), False)
        self.assert_shut(((0, 0), (0, 4)), point(-1, 1, 1, 1), (1, -3), False)
        self.assert_shut(((0, 0), (0, 4)), point(-1, 1, 1, 1), (1, -1), True)

    def test_by_an_end_of_the_side(self):
        self.assert_shut(((0, 0), (0, 4)), point(-1, 2, 0, 1), (5, 0), True)
        self.assert_shut(((0, 0), (0, 4)), point(-3, 2, 11, 2), (8, -4), True)
        self.assert_shut(((0, 0), (0, 4)), point(-1, 2, 7, 2), (5, 9), True)
        self.assert_shut(((0, 0), (0, 4)), point(-1, 2, 10, 2), (1, 4), False)

    def test_a_point_on_the_side(self):
        self.assert_shut(((0, 0), (0, 4)), point(0, 1, 1, 3), (5, 1), True)
        self.assert_shut(((0, 0), (0, 4)), point(0, 1, 0, 1), (5, 1), True)
        self.assert_shut(((0, 0), (0, 4)), point(0, 1, 4, 1), (-5, 1), True)
        self.assert_shut(((0, 0), (0, 4)), point(0, 1, 13, 3), (-5, 9), False)

    def test_a_place_on_the_side(self):
        self.assert_shut(((0, 0), (0, 4)), point(1, 2, 1, 3), (0, 4), False)
        self.assert_shut(((0, 0), (0, 4)), point(1, 2, 1, 3), (0, 0), False)
        self.assert_shut(((0, 0), (0, 4)), point(1, 2, 1, 3), (0, 2), False)

    def test_in_line_with_the_side(self):
        self.assert_shut(((0, 0), (0, 4)), point(0, 1, 1, 3), (0, 0), True)
        self.assert_shut(((0, 0), (0, 4)), point(0, 1, 9, 2), (0, 0), True)
        self.assert_shut(((0, 0), (0, 4)), point(0, 1, 9, 2), (0, 2), True)
        self.assert_shut(((0, 0), (0, 4)), point(0, 1, 9, 2), (0, -1), True)
        self.assert_shut(((0, 0), (0, 4)), point(0, 1, 4, 1), (0, 8), True)
        self.assert_shut(((0, 0), (0, 4)), point(0, 1, 9, 2), (0, 4), False)
        self.assert_shut(((0, 0), (0, 4)), point(0, 1, -1, 2), (0, 0), False)
        self.assert_shut(((0, 0), (0, 4)), point(0, 1, 9, 2), (0, 8), False)

    def test_where_the_place_itself_lies_nothing_shuts_it_off(self):
        for d in GRID:
            self.assertIsNone(shut(SIDES, point_of(d), d))

    def test_the_first_in_the_list(self):
        one, two, three = ((2, 0), (2, 4)), ((1, 0), (1, 4)), ((9, 0), (9, 4))
        X = point(1, 2, 1, 2)
        self.assertEqual(shut([one, two, three], X, (5, 1)), one)
        self.assertEqual(shut([three, two, one], X, (5, 1)), two)
        self.assertIsNone(shut([three], X, (5, 1)))
        self.assertIsNone(shut([], X, (5, 1)))

    def test_all_sides_of_a_grid(self):
        points = [point(x, 2, y, 2) for x in range(-1, 8) for y in range(-1, 6)]
        points += [point(x, 3, y, 3) for x in (1, 4, 5) for y in (1, 2, 4)]
        for one in SIDES[::2]:
            for X in points:
                for d in GRID[::2]:
                    self.assertEqual(shut([one], X, d), exact_shut([one], X, d), (one, X, d))

    def test_points_of_three_hundred_figures(self):
        n = 10 ** 300 - 1
        one = ((0, -FORTY), (0, FORTY))
        for x in [fraction(1, n), fraction(n, 1), fraction(n, n - 1)]:
            y = fraction(1, n - 2)
            left = (fraction(-x[0], x[1]), y)
            self.assert_shut(one, left, (FORTY, 0), True)
            self.assert_shut(one, (x, y), (FORTY, 0), False)
            self.assert_shut(one, (x, y), (-FORTY, 0), True)
        # The way goes through the side's end, or misses it by the least there is.
        for x_bottom, y_bottom, wanted in [(n, n, True), (n, n - 1, True), (n - 1, n, False)]:
            X = (fraction(-1, x_bottom), fraction(1, y_bottom))
            self.assert_shut(((0, 0), (0, FORTY)), X, (1, -1), wanted)

    def test_what_is_given_stays(self):
        kept = [((2, 0), (2, 4)), ((1, 0), (1, 4))]
        given = list(kept)
        shut(kept, point(1, 2, 1, 2), (5, 1))
        self.assertEqual(kept, given)


if __name__ == "__main__":
    unittest.main()
