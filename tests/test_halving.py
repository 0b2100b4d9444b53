"""The nets of the two halves and what lies across [24]."""

import unittest

from exact import exact_net
from nearland.halving import by_halving, halves
from samples import ALL, FAN, GRID_SIXTEEN, LINES, ONE, SQUARE, THREE, TWO, orders, parts_of_a_grid

class Halves(unittest.TestCase):
    def assert_halves(self, places):
        line = sorted(places)
        first, second = line[:len(line) // 2], line[len(line) // 2:]
        net = exact_net(places)
        across = [t for t in net if set(t) & set(first) and set(t) & set(second)]
        wanted = (exact_net(first), exact_net(second), across)
        for order in orders(places):
            given = list(order)
            self.assertEqual(halves(order), wanted)
            self.assertEqual(order, given)
        for t in net:
            if t not in across:
                self.assertIn(t, wanted[0] + wanted[1])

    def test_no_place_one_and_two(self):
        for places in [[], ONE, TWO]:
            self.assertEqual(halves(places), ([], [], []))

    def test_all_on_one_line(self):
        for places in LINES:
            self.assertEqual(halves(places), ([], [], []))

    def test_the_first_half_has_one_fewer(self):
        self.assertEqual(halves(THREE), ([], [], [((0, 0), (4, 0), (0, 3))]))
        # Of these five the first half has the two at the left.
        places = [(0, 0), (0, 9), (5, 4), (8, 1), (9, 6)]
        self.assertEqual(halves(places)[:2], ([], [((5, 4), (8, 1), (9, 6))]))
        self.assertEqual(halves([(-x, y) for x, y in places])[:2], ([], [((-5, 4), (0, 0), (0, 9))]))

    def test_two_halves_on_lines(self):
        first = [(0, 0), (0, 1), (0, 2)]
        second = [(1, 0), (1, 1), (1, 2)]
        self.assertEqual(halves(first + second), ([], [], exact_net(first + second)))
        self.assertEqual(halves(FAN), ([], exact_net([(2, 0), (5, 0), (3, 4)]), exact_net(FAN)[:2]))

    def test_a_triangle_of_a_half_that_the_other_half_spoils(self):
        places = [(0, 4), (0, 6), (1, -30), (2, 5), (3, 5), (3, 6)]
        spoilt = ((0, 4), (1, -30), (0, 6))
        self.assertEqual(halves(places)[0], [spoilt])
        self.assertNotIn(spoilt, by_halving(places))
        self.assert_halves(places)
        mirrored = [(-x, y) for x, y in places]
        spoilt = ((-1, -30), (0, 4), (0, 6))
        self.assertEqual(halves(mirrored)[1], [spoilt])
        self.assertNotIn(spoilt, by_halving(mirrored))
        self.assert_halves(mirrored)

    def test_all_samples_in_many_orders(self):
        for places in ALL:
            self.assert_halves(places)

    def test_all_parts_of_a_grid(self):
        for places in parts_of_a_grid():
            self.assert_halves(places)

    def test_the_told_lists_belong_to_whoever_asked(self):
        for places in [[], list(SQUARE), list(GRID_SIXTEEN)]:
            wanted = tuple(list(part) for part in halves(places))
            for part in halves(places):
                part.append("more")
            told = halves(places)
            places.clear()
            self.assertEqual(told, wanted)
            told[0].append("more")
            self.assertEqual(told[1:], wanted[1:])


if __name__ == "__main__":
    unittest.main()
