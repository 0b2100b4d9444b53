"""Whether a point lies within a land, on a border or outside [33], just as some place is nearer or none is [4]."""

import unittest

from exact import exact_net, exact_square
from exact_more import exact_land
from nearland.landpoints import in_land
from nearland.lands import land, lands
from nearland.rings import nearer
from samples import ALL, CENTRED, FORTY, GRID_NINE, LINES, ONE, SMALL, SQUARE, TWO, parts_of_a_grid, points_about


def where(places, p, X):
    """Where the point lies, as no other place or some place is nearer."""
    others = [exact_square(q, X) - exact_square(p, X) for q in places if q != p]
    if any(more < 0 for more in others):
        return -1
    return 0 if any(more == 0 for more in others) else 1


class InLand(unittest.TestCase):
    def assert_lies(self, places, p, points):
        told = exact_land(places, p)
        for X, wanted in points:
            self.assertEqual(in_land(p, told, X), wanted, (p, X))

    def test_of_one_place_all_lies_within(self):
        for X in [((3, 1), (-2, 1)), ((10 ** 300 - 1, 7), (0, 1)), ((0, 1), (-FORTY, 1))]:
            self.assertEqual(in_land((3, -2), [], X), 1)

    def test_of_two(self):
        line = [((0, 1), (0, 1), 1), ((1, 1), (5, 1), 0), ((2, 1), (5, 1), -1), ((999, 1000), (-9, 1), 1)]
        self.assert_lies([(0, 0), (2, 0)], (0, 0), [((x, y), wanted) for x, y, wanted in line])
        self.assert_lies([(0, 0), (2, 0)], (2, 0), [((x, y), -wanted) for x, y, wanted in line])

    def test_between_two_borders_that_are_endless(self):
        places = [(0, 0), (2, 0), (6, 0)]
        self.assert_lies(places, (2, 0), [
            (((2, 1), (99, 1)), 1), (((1, 1), (99, 1)), 0), (((4, 1), (-99, 1)), 0), (((1, 2), (0, 1)), -1),
            (((9, 2), (0, 1)), -1),
        ])

    def test_round(self):
        self.assert_lies(CENTRED, (2, 2), [
            (((2, 1), (2, 1)), 1), (((2, 1), (1, 2)), 1), (((1, 1), (1, 1)), 0), (((2, 1), (0, 1)), 0),
            (((0, 1), (2, 1)), 0), (((1, 1), (1, 2)), -1), (((2, 1), (-1, 9)), -1), (((9, 1), (9, 1)), -1),
        ])

    def test_where_several_stand_at_one_point(self):
        below = ((1, 2), (-5, 1))
        for p in SQUARE:
            self.assert_lies(SQUARE, p, [(((1, 2), (1, 2)), 0), (below, where(SQUARE, p, below))])
        self.assert_lies(SQUARE, (0, 0), [(((1, 3), (1, 3)), 1), (((1, 2), (1, 3)), 0), (((2, 3), (1, 3)), -1)])

    def test_outside_just_where_some_place_is_nearer(self):
        for places in ALL:
            told = {p: exact_land(places, p) for p in places}
            for X in points_about(places)[::1 if len(places) < 10 else 4]:
                for p in places[::1 if len(places) < 10 else 3]:
                    self.assertEqual(in_land(p, told[p], X), where(places, p, X), (places, p, X))

    def test_all_parts_of_a_grid(self):
        points = [((1, 2), (1, 2)), ((1, 1), (1, 1)), ((3, 2), (1, 3)), ((1, 1), (5, 2)), ((-1, 1), (1, 2))]
        for places in parts_of_a_grid():
            for p, told in lands(places, exact_net(places)):
                for X in points:
                    self.assertEqual(in_land(p, told, X), where(places, p, X), (places, p, X))

    def test_starts_and_ends_lie_on_the_border(self):
        for places in SMALL:
            for p in places:
                told = exact_land(places, p)
                for border in told:
                    for X in border[1:]:
                        if X is not None:
                            self.assertEqual(in_land(p, told, X), 0)

    def test_a_place_lies_within_its_land_alone(self):
        for places in SMALL:
            for p, told in lands(places, exact_net(places)):
                for q in places:
                    self.assertEqual(in_land(p, told, ((q[0], 1), (q[1], 1))), 1 if p == q else -1)

    def test_as_the_borders_of_the_program_bound_it(self):
        for places in [ONE, TWO, CENTRED, GRID_NINE] + LINES:
            net = exact_net(places)
            for p in places:
                for X in points_about(places):
                    outside = any(nearer(X, p, q) == -1 for q in places)
                    self.assertEqual(in_land(p, land(places, net, p), X) == -1, outside)

    def test_points_of_three_hundred_figures(self):
        n = 10 ** 300 - 1
        told = exact_land([(0, 0), (2, 0)], (0, 0))
        for x, wanted in [((n - 1, n), 1), ((n, n - 1), -1), ((1, 1), 0)]:
            self.assertEqual(in_land((0, 0), told, (x, (n, 1))), wanted)
            self.assertEqual(in_land((0, 0), told, (x, (-1, n))), wanted)

    def test_what_is_given_stays(self):
        told = exact_land(CENTRED, (2, 2))
        given = list(told)
        for X in points_about(CENTRED):
            in_land((2, 2), told, X)
        self.assertEqual(told, given)


if __name__ == "__main__":
    unittest.main()
