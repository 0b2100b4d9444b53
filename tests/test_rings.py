"""Rings and their middles [8], what spoils three places [9], squares and the nearer place [10]."""

import itertools
import unittest
from fractions import Fraction

from exact import area, exact_middle, exact_point, exact_ring, exact_spoils, exact_square, pair_of
from nearland.errors import Flat
from nearland.numbers import point_of
from nearland.rings import middle, nearer, ring, spoils, square

FORTY = 10 ** 40 - 1
GRID = [(x, y) for x in range(4) for y in range(3)]
FLAT = [
    ((0, 0), (1, 1), (2, 2)),
    ((0, 0), (0, 5), (0, 9)),
    ((-4, 3), (0, 3), (7, 3)),
    ((1, 2), (1, 2), (5, 5)),
    ((1, 2), (1, 2), (1, 2)),
    ((-FORTY, -FORTY), (0, 0), (FORTY, FORTY)),
]


class Middles(unittest.TestCase):
    def assert_middle(self, places, wanted):
        for a, b, c in itertools.permutations(places):
            made = middle(a, b, c)
            self.assertEqual(made, wanted)
            self.assertEqual([type(made), type(made[0]), type(made[1])], [tuple, tuple, tuple])

    def test_written_ones(self):
        self.assert_middle([(0, 0), (1, 0), (0, 1)], ((1, 2), (1, 2)))
        self.assert_middle([(0, 0), (4, 0), (0, 2)], ((2, 1), (1, 1)))
        self.assert_middle([(5, 0), (-3, 4), (0, -5)], ((0, 1), (0, 1)))
        self.assert_middle([(12, -3), (4, 1), (7, -8)], ((7, 1), (-3, 1)))
        self.assert_middle([(0, 0), (3, 1), (1, 2)], ((3, 2), (1, 2)))
        self.assert_middle([(0, 0), (2, 1), (1, 3)], ((1, 2), (3, 2)))
        self.assert_middle([(-4, -4), (-2, -3), (-3, -1)], ((-7, 2), (-5, 2)))

    def test_lowest_terms_of_all_small_ones(self):
        for a, b, c in itertools.permutations(GRID, 3):
            if area(a, b, c) != 0:
                self.assertEqual(middle(a, b, c), exact_middle(a, b, c))

    def test_as_far_from_each(self):
        a, b, c = (-7, 3), (11, 5), (2, -13)
        X = middle(a, b, c)
        self.assertEqual(square(a, X), square(b, X))
        self.assertEqual(square(a, X), square(c, X))

    def test_forty_figures(self):
        self.assert_middle([(FORTY, FORTY), (-FORTY, FORTY), (FORTY, -FORTY)], ((0, 1), (0, 1)))
        places = [(FORTY, FORTY - 1), (FORTY - 1, FORTY - 2), (-FORTY, -FORTY)]
        self.assert_middle(places, exact_middle(*places))

    def test_flat_ones_are_refused(self):
        for places in FLAT:
            for a, b, c in itertools.permutations(places):
                with self.assertRaises(Flat):
                    middle(a, b, c)


class Rings(unittest.TestCase):
    def assert_ring(self, places, d, wanted):
        for a, b, c in itertools.permutations(places):
            made = ring(a, b, c, d)
            self.assertEqual(made, wanted)
            self.assertIs(type(made), int)

    def test_within_on_and_outside(self):
        places = [(5, 0), (-3, 4), (0, -5)]
        for d in [(0, 0), (4, 2), (-4, 2), (1, -4)]:
            self.assert_ring(places, d, 1)
        for d in [(3, 4), (-4, -3), (0, 5), (-5, 0), (4, -3)]:
            self.assert_ring(places, d, 0)
        for d in [(5, 1), (-4, 4), (0, -6), (100, 100)]:
            self.assert_ring(places, d, -1)

    def test_each_of_the_three_lies_on_it(self):
        for places in [[(5, 0), (-3, 4), (0, -5)], [(0, 0), (3, 1), (1, 2)], [(FORTY, 0), (0, FORTY), (-FORTY, 1)]]:
            for d in places:
                self.assert_ring(places, d, 0)

    def test_forty_figures(self):
        k = 10 ** 38
        places = [(5 * k, 0), (-3 * k, 4 * k), (0, -5 * k)]
        self.assert_ring(places, (3 * k, -4 * k), 0)
        self.assert_ring(places, (3 * k, -4 * k + 1), 1)
        self.assert_ring(places, (3 * k - 1, -4 * k), 1)
        self.assert_ring(places, (3 * k, -4 * k - 1), -1)
        self.assert_ring(places, (3 * k + 1, -4 * k), -1)

    def test_all_small_ones(self):
        for a, b, c in itertools.permutations(GRID, 3):
            if area(a, b, c) != 0:
                for d in GRID:
                    self.assertEqual(ring(a, b, c, d), exact_ring(a, b, c, d))

    def test_flat_ones_are_refused_whatever_the_fourth_is(self):
        for places in FLAT:
            for a, b, c in itertools.permutations(places):
                for d in [a, b, c, (0, 0), (3, 3), (-9, 2), (FORTY, -FORTY)]:
                    with self.assertRaises(Flat):
                        ring(a, b, c, d)


class Spoiling(unittest.TestCase):
    def assert_spoils(self, places, d, wanted):
        for a, b, c in itertools.permutations(places):
            self.assertIs(spoils(a, b, c, d), wanted)

    def test_within_the_ring(self):
        places = [(5, 0), (-3, 4), (0, -5)]
        for d in [(0, 0), (4, 2), (-4, 2), (1, -4), (-4, -2)]:
            self.assert_spoils(places, d, True)

    def test_outside_the_ring(self):
        places = [(5, 0), (-3, 4), (0, -5)]
        for d in [(5, 1), (-4, 4), (0, -6), (-6, 0), (-100, -100)]:
            self.assert_spoils(places, d, False)

    def test_on_it_and_before_all_three(self):
        places = [(5, 0), (-3, 4), (0, -5)]
        for d in [(-5, 0), (-4, 3), (-4, -3), (-3, -4)]:
            self.assert_spoils(places, d, True)

    def test_on_it_and_before_by_its_second_number_alone(self):
        self.assert_spoils([(0, 1), (1, 0), (1, 1)], (0, 0), True)

    def test_on_it_on_the_other_side_than_the_least(self):
        self.assert_spoils([(0, 0), (0, 1), (1, 0)], (1, 1), True)
        self.assert_spoils([(5, 0), (-3, 4), (0, -5)], (3, -4), True)
        self.assert_spoils([(5, 0), (-3, 4), (0, -5)], (4, -3), True)

    def test_on_it_on_the_same_side_as_the_least(self):
        self.assert_spoils([(0, 0), (1, 0), (1, 1)], (0, 1), False)
        self.assert_spoils([(0, 0), (0, 1), (1, 1)], (1, 0), False)
        self.assert_spoils([(5, 0), (-3, 4), (0, -5)], (3, 4), False)
        self.assert_spoils([(5, 0), (-3, 4), (0, -5)], (0, 5), False)

    def test_none_of_the_three_spoils_them(self):
        for places in [[(5, 0), (-3, 4), (0, -5)], [(0, 0), (0, 1), (1, 1)], [(FORTY, 0), (0, FORTY), (-FORTY, 1)]]:
            for d in places:
                self.assert_spoils(places, d, False)

    def test_forty_figures(self):
        k = 10 ** 38
        places = [(5 * k, 0), (-3 * k, 4 * k), (0, -5 * k)]
        self.assert_spoils(places, (3 * k, -4 * k), True)
        self.assert_spoils(places, (3 * k, -4 * k - 1), False)
        self.assert_spoils(places, (3 * k, 4 * k), False)
        self.assert_spoils(places, (3 * k, 4 * k - 1), True)
        self.assert_spoils(places, (-5 * k, 0), True)
        self.assert_spoils(places, (-5 * k - 1, 0), False)

    def test_all_small_ones(self):
        for a, b, c in itertools.permutations(GRID, 3):
            if area(a, b, c) != 0:
                for d in GRID:
                    self.assertIs(spoils(a, b, c, d), exact_spoils(a, b, c, d))

    def test_of_four_on_a_ring_just_two_triangles_are_not_spoilt(self):
        for four in [[(0, 0), (0, 1), (1, 0), (1, 1)], [(5, 0), (-3, 4), (0, -5), (4, 3)]]:
            left = [t for t in itertools.combinations(four, 3) if not any(spoils(*t, d) for d in four)]
            self.assertEqual(len(left), 2)
            for t in left:
                self.assertIn(min(four), t)

    def test_flat_ones_are_refused_whatever_the_fourth_is(self):
        for places in FLAT:
            for a, b, c in itertools.permutations(places):
                for d in [a, b, c, (0, 0), (3, 3), (-9, 2), (FORTY, -FORTY)]:
                    with self.assertRaises(Flat):
                        spoils(a, b, c, d)


class Squares(unittest.TestCase):
    def assert_square(self, p, X, wanted):
        made = square(p, X)
        self.assertEqual(made, wanted)
        self.assertEqual([type(made), type(made[0]), type(made[1])], [tuple, int, int])

    def test_points_of_whole_numbers(self):
        self.assert_square((0, 0), ((3, 1), (4, 1)), (25, 1))
        self.assert_square((3, 4), ((0, 1), (0, 1)), (25, 1))
        self.assert_square((-1, 7), ((2, 1), (-5, 1)), (153, 1))
        self.assert_square((6, 2), ((6, 1), (-5, 1)), (49, 1))

    def test_points_of_fractions_in_lowest_terms(self):
        self.assert_square((0, 0), ((1, 2), (1, 2)), (1, 2))
        self.assert_square((0, 0), ((3, 5), (4, 5)), (1, 1))
        self.assert_square((1, -1), ((1, 3), (-1, 4)), (145, 144))
        self.assert_square((2, 0), ((-1, 2), (1, 1)), (29, 4))
        self.assert_square((0, 0), ((1, 6), (1, 3)), (5, 36))

    def test_a_place_and_itself(self):
        for p in [(0, 0), (-3, 8), (FORTY, -FORTY)]:
            self.assert_square(p, point_of(p), (0, 1))

    def test_all_small_ones(self):
        pairs = itertools.product(range(-5, 6), (1, 2, 3, 6))
        numbers = [(top, bottom) for top, bottom in pairs if Fraction(top, bottom).denominator == bottom]
        for p in GRID:
            for X in itertools.product(numbers, repeat=2):
                self.assert_square(p, X, pair_of(exact_square(p, X)))

    def test_great_numbers(self):
        X = ((10 ** 300 - 1, 10 ** 299 + 1), (-10 ** 299, 10 ** 300 - 7))
        X = tuple(pair_of(number) for number in exact_point(X))
        for p in [(FORTY, -FORTY), (0, 0), (-1, FORTY)]:
            self.assert_square(p, X, pair_of(exact_square(p, X)))


class Nearer(unittest.TestCase):
    def assert_nearer(self, X, p, q, wanted):
        made = nearer(X, p, q)
        self.assertEqual(made, wanted)
        self.assertIs(type(made), int)
        self.assertEqual(nearer(X, q, p), -wanted)

    def test_points_of_whole_numbers(self):
        self.assert_nearer(((0, 1), (0, 1)), (1, 1), (2, 0), 1)
        self.assert_nearer(((0, 1), (0, 1)), (3, 0), (2, 2), -1)
        self.assert_nearer(((-4, 1), (9, 1)), (-4, 9), (-4, 10), 1)

    def test_points_of_fractions(self):
        self.assert_nearer(((1, 3), (0, 1)), (0, 0), (1, 0), 1)
        self.assert_nearer(((2, 3), (0, 1)), (0, 0), (1, 0), -1)
        self.assert_nearer(((-1, 2), (1, 3)), (0, 0), (-1, 1), 1)

    def test_by_very_little(self):
        little = 10 ** 299
        self.assert_nearer(((little // 2 - 1, little), (0, 1)), (0, 0), (1, 0), 1)
        self.assert_nearer(((little // 2 + 1, little), (0, 1)), (0, 0), (1, 0), -1)

    def test_alike_near_places(self):
        self.assert_nearer(((1, 2), (0, 1)), (0, 0), (1, 0), 0)
        self.assert_nearer(((0, 1), (0, 1)), (3, 4), (5, 0), 0)
        self.assert_nearer(((1, 2), (1, 2)), (0, 0), (1, 1), 0)
        self.assert_nearer(((0, 1), (0, 1)), (FORTY, 1), (-1, FORTY), 0)

    def test_a_place_and_itself(self):
        for X in [((0, 1), (0, 1)), ((1, 2), (-7, 3)), ((5, 1), (6, 1))]:
            self.assert_nearer(X, (5, 6), (5, 6), 0)

    def test_all_small_ones(self):
        numbers = [(0, 1), (1, 2), (-1, 3), (5, 3), (2, 1)]
        for X in itertools.product(numbers, repeat=2):
            for p, q in itertools.product(GRID, repeat=2):
                more = exact_square(q, X) - exact_square(p, X)
                self.assertEqual(nearer(X, p, q), (more > 0) - (more < 0))


class Given(unittest.TestCase):
    def test_the_same_question_has_the_same_answer_and_the_given_stays(self):
        a, b, c, d, X = (0, 0), (1, 0), (0, 1), (1, 1), ((1, 2), (1, 3))
        before = repr((a, b, c, d, X))
        for again in range(3):
            self.assertEqual(middle(a, b, c), ((1, 2), (1, 2)))
            self.assertEqual(ring(a, b, c, d), 0)
            self.assertEqual(spoils(a, b, c, d), True)
            self.assertEqual(square(a, X), (13, 36))
            self.assertEqual(nearer(X, a, d), 1)
        self.assertEqual(repr((a, b, c, d, X)), before)


if __name__ == "__main__":
    unittest.main()
