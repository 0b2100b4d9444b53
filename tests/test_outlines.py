"""The outline of places [11], with what comes before what [3]."""

import unittest

from exact import area, exact_border, exact_outline
from nearland.outlines import on_one_line, outline, outline_sides
from samples import ALL, CENTRED, FORTY, GRID_NINE, LINES, SLANTED, STRETCHES, orders, parts_of_a_grid


class Outlines(unittest.TestCase):
    def assert_outline(self, places, wanted):
        for order in orders(places):
            given = list(order)
            self.assertEqual(outline(order), wanted)
            self.assertEqual(order, given)

    def test_no_place_one_and_two(self):
        self.assert_outline([], [])
        self.assert_outline([(3, -2)], [(3, -2)])
        self.assert_outline([(4, 1), (-2, 7)], [(-2, 7), (4, 1)])
        self.assert_outline([(4, 1), (4, 7)], [(4, 1), (4, 7)])

    def test_all_on_one_line_go_there_and_back(self):
        self.assert_outline([(0, 0), (2, 2), (1, 1)], [(0, 0), (1, 1), (2, 2), (1, 1)])
        self.assert_outline([(0, 5), (0, -1), (0, 2), (0, 3)], [(0, -1), (0, 2), (0, 3), (0, 5), (0, 3), (0, 2)])
        self.assert_outline([(3, 1), (1, 1), (2, 1)], [(1, 1), (2, 1), (3, 1), (2, 1)])
        self.assert_outline(LINES[4], [(-FORTY, -FORTY), (0, 0), (FORTY, FORTY), (0, 0)])

    def test_round_with_the_region_at_the_left_from_the_least_on(self):
        self.assert_outline([(0, 3), (4, 0), (0, 0)], [(0, 0), (4, 0), (0, 3)])
        self.assert_outline([(0, 0), (-1, 9), (5, -3)], [(-1, 9), (0, 0), (5, -3)])
        self.assert_outline(CENTRED, [(0, 0), (4, 0), (4, 4), (0, 4)])

    def test_of_two_leftmost_the_lower_is_the_least(self):
        self.assert_outline([(-1, 6), (-1, 2), (3, 0)], [(-1, 2), (3, 0), (-1, 6)])

    def test_places_on_straight_stretches_are_told(self):
        self.assert_outline(STRETCHES, [(0, 0), (2, 0), (5, 0), (5, 3), (5, 4), (3, 4), (0, 4), (0, 1)])
        self.assert_outline(SLANTED, [(0, 0), (2, 1), (4, 2), (6, 3), (3, 5), (1, 4)])
        self.assert_outline(GRID_NINE, [(0, 0), (1, 0), (2, 0), (2, 1), (2, 2), (1, 2), (0, 2), (0, 1)])

    def test_a_bay_by_very_little(self):
        corners = [(-FORTY, -FORTY), (FORTY, -FORTY), (FORTY, FORTY)]
        self.assert_outline(corners + [(0, 0)], corners + [(0, 0)])
        self.assert_outline(corners + [(1, 0)], corners)
        self.assert_outline(corners + [(0, 1)], corners + [(0, 1)])

    def test_all_samples(self):
        for places in ALL:
            self.assert_outline(places, exact_outline(places))

    def test_all_parts_of_a_grid(self):
        for places in parts_of_a_grid():
            self.assertEqual(outline(places), exact_outline(places))

    def test_the_told_list_belongs_to_whoever_asked(self):
        for places in [[], [(1, 1)], [(1, 1), (2, 5)], [(1, 1), (2, 2), (3, 3)], [(0, 0), (1, 0), (0, 1)]]:
            given = list(places)
            first = outline(places)
            wanted = list(first)
            first.append((9, 9))
            first.reverse()
            self.assertEqual(places, given)
            second = outline(places)
            self.assertEqual(second, wanted)
            places.append((50, -50))
            self.assertEqual(second, wanted)


class Sides(unittest.TestCase):
    def test_no_place_and_one_have_none(self):
        self.assertEqual(outline_sides([]), [])
        self.assertEqual(outline_sides([(5, 5)]), [])

    def test_two_go_there_and_back(self):
        self.assertEqual(outline_sides([(5, 5), (2, 1)]), [((2, 1), (5, 5)), ((5, 5), (2, 1))])

    def test_from_each_to_the_one_that_follows(self):
        for places in ALL:
            self.assertEqual(outline_sides(places), exact_border(places))


class Lines(unittest.TestCase):
    def test_on_one_line_or_not(self):
        for places in ALL:
            wanted = all(area(a, b, c) == 0 for a in places[:1] for b in places[1:2] for c in places)
            for order in orders(places):
                self.assertIs(on_one_line(order), wanted)


if __name__ == "__main__":
    unittest.main()
