"""A sweep tells a cover of the places [16], as point 13 says what a cover is."""

import unittest

from exact import area, exact_outline, what_is_no_cover
from nearland.sweeps import swept
from samples import ALL, FAN, LINES, ONE, SQUARE, THREE, TWO, orders, parts_of_a_grid


class Swept(unittest.TestCase):
    def assert_cover(self, places):
        for order in orders(places):
            given = list(order)
            cover = swept(order)
            self.assertIsNone(what_is_no_cover(places, cover))
            self.assertEqual(order, given)
            self.assertEqual(swept(order), cover)

    def test_no_triangle_without_three_off_a_line(self):
        for places in [[], ONE, TWO] + LINES:
            for order in orders(places):
                self.assertEqual(swept(order), [])

    def test_where_there_is_one_cover_alone(self):
        self.assertEqual(swept(THREE), [((0, 0), (4, 0), (0, 3))])
        self.assertEqual(swept(FAN), [
            ((0, 0), (1, 0), (3, 4)), ((1, 0), (2, 0), (3, 4)), ((2, 0), (5, 0), (3, 4)),
        ])

    def test_a_square_has_two_covers(self):
        self.assertIn(swept(SQUARE), [
            [((0, 0), (1, 0), (0, 1)), ((0, 1), (1, 0), (1, 1))],
            [((0, 0), (1, 0), (1, 1)), ((0, 0), (1, 1), (0, 1))],
        ])

    def test_all_samples(self):
        for places in ALL:
            self.assert_cover(places)

    def test_all_parts_of_a_grid(self):
        for places in parts_of_a_grid():
            self.assertIsNone(what_is_no_cover(places, swept(places)))

    def test_the_triangles_fill_the_outline(self):
        for places in ALL:
            border = exact_outline(places)
            wanted = sum(area(border[0], *two) for two in zip(border, border[1:]))
            self.assertEqual(sum(area(*t) for t in swept(places)), wanted)

    def test_the_told_list_belongs_to_whoever_asked(self):
        places = list(SQUARE)
        first = swept(places)
        wanted = list(first)
        first.clear()
        self.assertEqual(places, SQUARE)
        second = swept(places)
        self.assertEqual(second, wanted)
        places.append((7, 7))
        self.assertEqual(second, wanted)


if __name__ == "__main__":
    unittest.main()
