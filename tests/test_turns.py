"""Twice the area, turns, the side on which a point lies, and what lies between [7]."""

import itertools
import unittest
from fractions import Fraction

from nearland.numbers import point_of
from nearland.turns import between, side_of, turn, twice

FORTY = 10 ** 40 - 1
GRID = [(x, y) for x in range(-1, 3) for y in range(-1, 3)]


def point(x, y):
    return ((x.numerator, x.denominator), (y.numerator, y.denominator))


class Turns(unittest.TestCase):
    def assert_orders(self, a, b, c, wanted):
        """The three turn the same way round however they are begun, and else the other way."""
        self.assertIs(type(twice(a, b, c)), int)
        for one, two, three in [(a, b, c), (b, c, a), (c, a, b)]:
            self.assertEqual(twice(one, two, three), wanted)
            self.assertEqual(twice(one, three, two), -wanted)
            self.assert_turn(one, two, three, (wanted > 0) - (wanted < 0))
            self.assert_turn(one, three, two, (wanted < 0) - (wanted > 0))

    def assert_turn(self, a, b, c, wanted):
        made = turn(a, b, c)
        self.assertEqual(made, wanted)
        self.assertIs(type(made), int)

    def test_all_six_orders(self):
        self.assert_orders((0, 0), (1, 0), (0, 1), 1)
        self.assert_orders((0, 0), (4, 0), (0, 3), 12)
        self.assert_orders((2, 3), (5, -1), (7, 7), 32)
        self.assert_orders((-3, -2), (-7, 5), (4, 4), -73)

    def test_left_is_one_and_right_is_minus_one(self):
        self.assertEqual(turn((0, 0), (0, 5), (-1, 2)), 1)
        self.assertEqual(turn((0, 0), (0, 5), (1, 2)), -1)
        self.assertEqual(turn((5, 0), (0, 0), (2, -1)), 1)
        self.assertEqual(turn((5, 0), (0, 0), (2, 1)), -1)

    def test_three_on_one_line(self):
        self.assert_orders((0, 0), (1, 2), (3, 6), 0)
        self.assert_orders((5, -1), (5, 0), (5, 9), 0)
        self.assert_orders((-2, 4), (0, 4), (7, 4), 0)

    def test_two_alike(self):
        self.assert_orders((3, 4), (3, 4), (7, -2), 0)
        self.assert_orders((3, 4), (3, 4), (3, 4), 0)

    def test_forty_figures(self):
        self.assert_orders((-FORTY, -FORTY), (FORTY, -FORTY), (FORTY, FORTY), 4 * FORTY * FORTY)
        self.assert_orders((-FORTY, -FORTY), (0, 0), (FORTY, FORTY), 0)
        self.assert_orders((-FORTY, -FORTY), (0, 0), (FORTY - 1, FORTY), FORTY)
        self.assert_orders((0, 0), (FORTY, FORTY - 1), (FORTY - 1, FORTY - 2), -1)


class SideOf(unittest.TestCase):
    def assert_side(self, a, b, X, wanted):
        """Beside wanted this asks that the other way has the point at the other hand."""
        made = side_of(a, b, X)
        self.assertEqual(made, wanted)
        self.assertIs(type(made), int)
        self.assertEqual(side_of(b, a, X), -wanted)

    def test_points_on_the_line(self):
        self.assert_side((0, 0), (3, 6), ((1, 2), (1, 1)), 0)
        self.assert_side((0, 0), (3, 6), ((-1, 3), (-2, 3)), 0)
        self.assert_side((0, 0), (3, 6), ((0, 1), (0, 1)), 0)
        self.assert_side((0, 0), (3, 6), ((3, 1), (6, 1)), 0)
        self.assert_side((1, 0), (1, 4), ((1, 1), (-7, 5)), 0)
        self.assert_side((0, 2), (5, 2), ((99, 7), (2, 1)), 0)

    def test_points_beside_the_line(self):
        self.assert_side((0, 0), (0, 5), ((-1, 2), (2, 1)), 1)
        self.assert_side((0, 0), (0, 5), ((1, 2), (2, 1)), -1)
        self.assert_side((0, 0), (1, 1), ((1, 3), (1, 2)), 1)
        self.assert_side((0, 0), (1, 1), ((1, 2), (1, 3)), -1)

    def test_points_beside_the_line_by_very_little(self):
        little = 10 ** 299
        self.assert_side((0, 0), (1, 0), ((1, 2), (1, little)), 1)
        self.assert_side((0, 0), (1, 0), ((1, 2), (-1, little)), -1)
        self.assert_side((0, 0), (1, 1), ((little, little + 1), (little + 1, little + 2)), 1)
        self.assert_side((0, 0), (1, 1), ((little + 1, little + 2), (little, little + 1)), -1)
        self.assert_side((0, 0), (1, 1), ((little, little + 1), (little, little + 1)), 0)
        self.assert_side((FORTY, 0), (FORTY, 1), ((FORTY * little - 1, little), (0, 1)), 1)
        self.assert_side((FORTY, 0), (FORTY, 1), ((FORTY * little + 1, little), (0, 1)), -1)

    def test_alike_places_have_no_side(self):
        for X in [((0, 1), (0, 1)), ((1, 2), (-3, 7)), ((5, 1), (5, 1))]:
            self.assertEqual(side_of((5, 5), (5, 5), X), 0)

    def test_a_place_lies_on_the_side_to_which_it_turns(self):
        for a, b, c in itertools.product(GRID, repeat=3):
            self.assertEqual(side_of(a, b, point_of(c)), turn(a, b, c))

    def test_all_small_points(self):
        numbers = [Fraction(-1, 2), Fraction(1, 3), Fraction(2, 3), Fraction(3, 2), Fraction(1)]
        for a, b in itertools.product(GRID, repeat=2):
            for x, y in itertools.product(numbers, repeat=2):
                exact = (b[0] - a[0]) * (y - a[1]) - (b[1] - a[1]) * (x - a[0])
                self.assertEqual(side_of(a, b, point(x, y)), (exact > 0) - (exact < 0))


class Between(unittest.TestCase):
    def assert_between(self, a, b, c, wanted):
        self.assertIs(between(a, b, c), wanted)
        self.assertIs(between(b, a, c), wanted)

    def test_on_the_straight_way(self):
        self.assert_between((0, 0), (4, 6), (2, 3), True)
        self.assert_between((0, 0), (4, -6), (2, -3), True)
        self.assert_between((0, 5), (9, 5), (1, 5), True)
        self.assert_between((7, -3), (7, 3), (7, 2), True)

    def test_at_its_ends(self):
        for a, b in [((0, 0), (4, 6)), ((0, 6), (4, 0)), ((2, 2), (2, 9)), ((2, 2), (9, 2))]:
            self.assert_between(a, b, a, False)
            self.assert_between(a, b, b, False)

    def test_on_the_line_but_beyond(self):
        self.assert_between((0, 0), (4, 6), (6, 9), False)
        self.assert_between((0, 0), (4, 6), (-2, -3), False)
        self.assert_between((7, -3), (7, 3), (7, 4), False)
        self.assert_between((7, -3), (7, 3), (7, -4), False)
        self.assert_between((0, 5), (9, 5), (10, 5), False)
        self.assert_between((0, 5), (9, 5), (-1, 5), False)

    def test_beside_it(self):
        self.assert_between((0, 0), (4, 6), (2, 4), False)
        self.assert_between((0, 0), (4, 6), (2, 2), False)
        self.assert_between((7, -3), (7, 3), (8, 0), False)
        self.assert_between((0, 5), (9, 5), (4, 6), False)

    def test_alike_ends(self):
        for c in GRID:
            self.assert_between((1, 1), (1, 1), c, False)

    def test_forty_figures(self):
        self.assert_between((-FORTY, -FORTY), (FORTY, FORTY), (FORTY - 1, FORTY - 1), True)
        self.assert_between((-FORTY, -FORTY), (FORTY, FORTY), (FORTY - 1, FORTY - 2), False)

    def test_all_small_ones(self):
        for a, b, c in itertools.product(GRID, repeat=3):
            parts = [Fraction(k, 12) for k in range(1, 12)]
            way = [(a[0] + k * (b[0] - a[0]), a[1] + k * (b[1] - a[1])) for k in parts]
            self.assertIs(between(a, b, c), a != b and c in way)


if __name__ == "__main__":
    unittest.main()
