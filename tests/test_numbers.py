"""Whole numbers [2], fractions [5], and the point where a place lies [6]."""

import math
import unittest
from fractions import Fraction

from nearland.errors import NoNumber
from nearland.numbers import fraction, is_whole, less, point_of

HUGE = 10 ** 300 - 1


class IsWhole(unittest.TestCase):
    def test_whole_numbers_of_any_size(self):
        for number in [0, 1, -1, 2, 7, 10 ** 40, -10 ** 40, HUGE, -HUGE, 10 ** 5000]:
            self.assertIs(is_whole(number), True)

    def test_true_and_false_are_none(self):
        self.assertIs(is_whole(True), False)
        self.assertIs(is_whole(False), False)

    def test_other_things_are_none(self):
        things = [None, "", "1", "one", (), (1,), (1, 2), [], [1], {}, {1: 1}, {1}, 1.0, 0.5, Fraction(2, 1), int, b"1"]
        for thing in things:
            with self.subTest(thing=thing):
                self.assertIs(is_whole(thing), False)


class MakingFractions(unittest.TestCase):
    def assert_fraction(self, top, bottom, wanted):
        made = fraction(top, bottom)
        self.assertEqual(made, wanted)
        self.assertIs(type(made), tuple)
        self.assertEqual([type(made[0]), type(made[1])], [int, int])

    def test_written_ones(self):
        rows = [
            (0, 1, (0, 1)), (0, 7, (0, 1)), (0, -7, (0, 1)), (0, HUGE, (0, 1)), (0, -HUGE, (0, 1)),
            (5, 1, (5, 1)), (5, -1, (-5, 1)), (-5, 1, (-5, 1)), (-5, -1, (5, 1)),
            (6, 4, (3, 2)), (-6, 4, (-3, 2)), (6, -4, (-3, 2)), (-6, -4, (3, 2)),
            (10, 5, (2, 1)), (5, 10, (1, 2)), (-5, 10, (-1, 2)), (1, -10, (-1, 10)), (7, 7, (1, 1)), (7, -7, (-1, 1)),
        ]
        for top, bottom, wanted in rows:
            with self.subTest(top=top, bottom=bottom):
                self.assert_fraction(top, bottom, wanted)

    def test_all_small_ones(self):
        for top in range(-24, 25):
            for bottom in list(range(-24, 0)) + list(range(1, 25)):
                exact = Fraction(top, bottom)
                self.assert_fraction(top, bottom, (exact.numerator, exact.denominator))

    def test_great_common_divisors(self):
        great = 10 ** 149 + 9
        for top, bottom in [(2, 3), (-2, 3), (2, -3), (-2, -3), (1, 1), (10 ** 150, 7)]:
            exact = Fraction(top, bottom)
            self.assert_fraction(top * great, bottom * great, (exact.numerator, exact.denominator))

    def test_three_hundred_figures(self):
        self.assert_fraction(HUGE, HUGE - 1, (HUGE, HUGE - 1))
        self.assert_fraction(HUGE, -HUGE, (-1, 1))
        self.assert_fraction(-HUGE, 3, (-HUGE // 3, 1))
        self.assert_fraction(2, -(10 ** 299), (-1, 10 ** 299 // 2))

    def test_many_steps_to_the_common_divisor(self):
        # Fibonacci numbers make Euclid's way the longest.
        one, other = 0, 1
        while len(str(other)) < 300:
            one, other = other, one + other
        self.assertEqual(math.gcd(one, other), 1)
        self.assert_fraction(6 * one, -6 * other, (-one, other))

    def test_the_second_number_nought_is_refused(self):
        for top in [0, 1, -1, 5, HUGE, -HUGE]:
            with self.assertRaises(NoNumber):
                fraction(top, 0)


class LessFractions(unittest.TestCase):
    def assert_less(self, one, other):
        self.assertIs(less(one, other), True)
        self.assertIs(less(other, one), False)

    def test_written_ones(self):
        self.assert_less((1, 3), (1, 2))
        self.assert_less((-1, 2), (-1, 3))
        self.assert_less((-1, 2), (1, 3))
        self.assert_less((-5, 1), (0, 1))
        self.assert_less((0, 1), (1, HUGE))
        self.assert_less((-1, HUGE), (0, 1))
        self.assert_less((2, 1), (5, 2))

    def test_alike_ones(self):
        for one in [(0, 1), (5, 1), (-5, 1), (2, 3), (-2, 3), (HUGE, HUGE - 1), (-HUGE, HUGE - 1)]:
            self.assertIs(less(one, (one[0], one[1])), False)

    def test_ones_that_differ_by_very_little(self):
        near = 10 ** 299
        self.assert_less((near, near + 1), (near + 1, near + 2))
        self.assert_less((-near - 1, near + 2), (-near, near + 1))
        self.assert_less((near, near + 1), (1, 1))
        self.assert_less((1, 1), (near + 1, near))
        self.assert_less((HUGE - 1, 1), (HUGE, 1))
        self.assert_less((1, HUGE), (1, HUGE - 1))

    def test_all_small_ones(self):
        made = sorted({Fraction(top, bottom) for top in range(-7, 8) for bottom in range(1, 8)})
        for one in made:
            for other in made:
                answer = less((one.numerator, one.denominator), (other.numerator, other.denominator))
                self.assertIs(answer, one < other)


class PointOfPlace(unittest.TestCase):
    def test_points(self):
        for x, y in [(0, 0), (3, -4), (-3, 4), (10 ** 40 - 1, 1 - 10 ** 40), (0, 7)]:
            self.assertEqual(point_of((x, y)), ((x, 1), (y, 1)))

    def test_kinds(self):
        made = point_of((2, 5))
        self.assertEqual([type(made), type(made[0]), type(made[1])], [tuple, tuple, tuple])


class Given(unittest.TestCase):
    def test_the_same_question_has_the_same_answer_and_the_given_stays(self):
        one, other, p, things = (1, 3), (1, 2), (4, 5), [1, 2]
        before = repr((one, other, p, things))
        for again in range(3):
            self.assertEqual(less(one, other), True)
            self.assertEqual(less(other, one), False)
            self.assertEqual(fraction(6, -4), (-3, 2))
            self.assertEqual(point_of(p), ((4, 1), (5, 1)))
            self.assertEqual(is_whole(things), False)
        self.assertEqual(repr((one, other, p, things)), before)


if __name__ == "__main__":
    unittest.main()
