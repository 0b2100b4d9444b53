"""Sides and ties [12] [16], area and the triangles at a point [6] [7], and the six faults [13] [14] [15]."""

import itertools
import unittest
from fractions import Fraction

from exact import (
    all_covers, area as twice, exact_between, exact_border, exact_net, exact_point, exact_sides, pair_of, spoils_kept,
    what_is_no_cover,
)
from nearland.covers import area, at, fault, sides_of, ties
from nearland.numbers import point_of
from nearland.sweeps import swept
from samples import ALL, CENTRED, FEW, FORTY, GREAT, GRID_NINE, LINES, ONE, RING, SQUARE, THREE, TWO, orders

LEAST_FAN = [((0, 0), (1, 0), (1, 1)), ((0, 0), (1, 1), (0, 1))]
OTHER_FAN = [((0, 0), (1, 0), (0, 1)), ((0, 1), (1, 0), (1, 1))]
CENTRED_NET = [
    ((0, 0), (2, 2), (0, 4)), ((0, 0), (4, 0), (2, 2)), ((0, 4), (2, 2), (4, 4)), ((2, 2), (4, 0), (4, 4)),
]


class Sides(unittest.TestCase):
    def test_written_ones(self):
        self.assertEqual(sides_of([]), [])
        self.assertEqual(sides_of([((0, 0), (4, 0), (0, 3))]), [((0, 0), (0, 3)), ((0, 0), (4, 0)), ((0, 3), (4, 0))])

    def test_a_side_of_two_triangles_is_told_once(self):
        self.assertEqual(sides_of(OTHER_FAN), [
            ((0, 0), (0, 1)), ((0, 0), (1, 0)), ((0, 1), (1, 0)), ((0, 1), (1, 1)), ((1, 0), (1, 1)),
        ])

    def test_all_samples(self):
        for places in ALL:
            for cover in [swept(places), exact_net(places)]:
                given = list(cover)
                self.assertEqual(sides_of(cover), exact_sides(cover))
                self.assertEqual(cover, given)

    def test_the_told_list_belongs_to_whoever_asked(self):
        cover = list(LEAST_FAN)
        first = sides_of(cover)
        wanted = list(first)
        first.pop()
        second = sides_of(cover)
        self.assertEqual(second, wanted)
        cover.clear()
        self.assertEqual(second, wanted)


class Ties(unittest.TestCase):
    def test_fewer_than_two_places_have_none(self):
        self.assertEqual(ties([], []), [])
        self.assertEqual(ties(ONE, []), [])

    def test_two_places_have_one(self):
        for order in orders(TWO):
            self.assertEqual(ties(order, []), [((-2, 7), (4, 1))])

    def test_neighbours_along_the_line(self):
        for order in orders([(0, 0), (1, 1), (2, 2), (5, 5)]):
            self.assertEqual(ties(order, []), [((0, 0), (1, 1)), ((1, 1), (2, 2)), ((2, 2), (5, 5))])
        for places in LINES:
            for order in orders(places):
                given = list(order)
                line = sorted(places)
                self.assertEqual(ties(order, []), list(zip(line, line[1:])))
                self.assertEqual(order, given)

    def test_else_the_sides_of_the_cover(self):
        for places in ALL:
            cover = swept(places)
            if cover:
                for order in orders(places):
                    self.assertEqual(ties(order, cover), exact_sides(cover))

    def test_the_told_list_belongs_to_whoever_asked(self):
        for places, cover in [(list(LINES[0]), []), (list(SQUARE), list(LEAST_FAN))]:
            first = ties(places, cover)
            wanted = list(first)
            first.clear()
            second = ties(places, cover)
            self.assertEqual(second, wanted)
            places.append((7, 7))
            self.assertEqual(second, wanted)


class Areas(unittest.TestCase):
    def test_written_ones(self):
        for cover, wanted in [([], 0), ([((0, 0), (4, 0), (0, 3))], 12), (LEAST_FAN, 2), (CENTRED_NET, 32)]:
            self.assertEqual(area(cover), wanted)
            self.assertIs(area(cover).__class__, int)

    def test_the_same_for_all_covers_of_the_places(self):
        for places in FEW:
            self.assertEqual({area(cover) for cover in all_covers(places)}, {sum(twice(*t) for t in swept(places))})

    def test_forty_figures(self):
        self.assertEqual(area(exact_net(GREAT[0])), 8 * FORTY * FORTY)


def exact_at(cover, X):
    x, y = exact_point(X)
    found = []
    for t in cover:
        corners = zip(t, t[1:] + t[:1])
        if all((b[0] - a[0]) * (y - a[1]) >= (b[1] - a[1]) * (x - a[0]) for a, b in corners):
            found.append(t)
    return sorted(found)


class At(unittest.TestCase):
    def test_within_one_triangle(self):
        self.assertEqual(at(CENTRED_NET, ((1, 2), (2, 1))), [CENTRED_NET[0]])
        self.assertEqual(at(CENTRED_NET, ((2, 1), (1, 1))), [CENTRED_NET[1]])
        self.assertEqual(at(CENTRED_NET, ((7, 3), (11, 3))), [CENTRED_NET[2]])
        self.assertEqual(at(CENTRED_NET, ((39, 10), (2, 1))), [CENTRED_NET[3]])

    def test_on_a_side_of_two(self):
        self.assertEqual(at(CENTRED_NET, ((1, 1), (1, 1))), CENTRED_NET[:2])
        self.assertEqual(at(CENTRED_NET, ((10, 3), (10, 3))), CENTRED_NET[2:])

    def test_on_the_outline(self):
        self.assertEqual(at(CENTRED_NET, ((0, 1), (1, 3))), [CENTRED_NET[0]])
        self.assertEqual(at(CENTRED_NET, ((4, 1), (7, 2))), [CENTRED_NET[3]])

    def test_at_a_corner(self):
        self.assertEqual(at(CENTRED_NET, point_of((2, 2))), CENTRED_NET)
        self.assertEqual(at(CENTRED_NET, point_of((4, 4))), CENTRED_NET[2:])
        self.assertEqual(at(LEAST_FAN, point_of((1, 0))), LEAST_FAN[:1])

    def test_outside(self):
        for X in [((-1, 3), (2, 1)), ((2, 1), (-1, 100)), ((5, 1), (5, 1)), ((4, 1), (9, 2)), ((6, 1), (6, 1))]:
            self.assertEqual(at(CENTRED_NET, X), [])

    def test_no_triangle(self):
        self.assertEqual(at([], ((0, 1), (0, 1))), [])

    def test_by_very_little(self):
        little = 10 ** 299
        self.assertEqual(at(CENTRED_NET, ((1, little), (2, 1))), [CENTRED_NET[0]])
        self.assertEqual(at(CENTRED_NET, ((-1, little), (2, 1))), [])
        self.assertEqual(at(CENTRED_NET, ((little, little + 1), (little + 1, little + 2))), [CENTRED_NET[0]])
        self.assertEqual(at(CENTRED_NET, ((little, little + 1), (little, little + 1))), CENTRED_NET[:2])

    def test_all_samples(self):
        for places in ALL:
            cover = swept(places)
            given = list(cover)
            for p, q in zip(places, places[1:] + places[:1]):
                for part in [Fraction(0), Fraction(1, 3), Fraction(1, 2), Fraction(3, 2)]:
                    X = tuple(pair_of(p[k] + part * (q[k] - p[k])) for k in (0, 1))
                    self.assertEqual(at(cover, X), exact_at(cover, X))
            self.assertEqual(cover, given)

    def test_the_told_list_belongs_to_whoever_asked(self):
        cover = list(CENTRED_NET)
        at(cover, point_of((2, 2))).clear()
        self.assertEqual(cover, CENTRED_NET)
        told = at(cover, point_of((2, 2)))
        cover.clear()
        self.assertEqual(told, CENTRED_NET)


class Faults(unittest.TestCase):
    def assert_fault(self, places, triples, wanted):
        """The places may stand in any order, and what is given stays."""
        for order in orders(places):
            given = (list(order), list(triples))
            self.assertEqual(fault(order, triples), wanted)
            self.assertEqual((order, triples), given)

    def assert_fault_in_all_orders(self, places, triples, wanted):
        for order in itertools.permutations(triples):
            self.assert_fault(places, list(order), wanted)

    def test_none_of_the_net_in_whatever_order(self):
        self.assert_fault_in_all_orders(SQUARE, LEAST_FAN, None)
        self.assert_fault_in_all_orders(CENTRED, CENTRED_NET, None)
        for places in ALL:
            net = exact_net(places)
            for triples in orders(net):
                self.assertIsNone(fault(places, triples))

    def test_none_of_no_triangle_where_all_lie_on_one_line(self):
        for places in [[], ONE, TWO] + LINES:
            self.assert_fault(places, [], None)

    def test_alien(self):
        alien = ((0, 0), (1, 0), (5, 5))
        for corners in itertools.permutations(alien):
            self.assert_fault(SQUARE, LEAST_FAN + [corners], ("alien", corners))
        self.assert_fault([], [alien], ("alien", alien))
        self.assert_fault([(0, 0)], [alien], ("alien", alien))

    def test_the_first_alien_in_the_list(self):
        greater, lesser = ((0, 0), (9, 0), (1, 1)), ((-1, 0), (1, 0), (1, 1))
        self.assert_fault(SQUARE, [LEAST_FAN[0], greater, lesser], ("alien", greater))
        self.assert_fault(SQUARE, [LEAST_FAN[0], lesser, greater], ("alien", lesser))

    def test_flat(self):
        rows = [
            ((0, 0), (1, 1), (2, 2)), ((0, 0), (0, 0), (1, 0)), ((1, 1), (1, 1), (1, 1)), ((0, 0), (0, 1), (0, 1)),
            ((0, 0), (0, 1), (1, 1)), ((1, 0), (1, 1), (0, 0)), ((1, 1), (0, 0), (1, 0)), ((1, 0), (0, 0), (1, 1)),
        ]
        for t in rows:
            self.assert_fault(SQUARE + [(2, 2)], [((0, 0), (1, 0), (1, 1)), t], ("flat", t))

    def test_on_one_line_every_triple_is_flat(self):
        for t in itertools.permutations([(0, 0), (1, 1), (2, 2)]):
            self.assert_fault(LINES[0], [t], ("flat", t))
        self.assert_fault(ONE, [(ONE[0],) * 3], ("flat", (ONE[0],) * 3))

    def test_the_first_flat_in_the_list(self):
        greater, lesser = ((1, 1), (0, 0), (1, 0)), ((0, 0), (0, 1), (1, 1))
        self.assert_fault(SQUARE, [greater, lesser], ("flat", greater))
        self.assert_fault(SQUARE, [lesser, greater], ("flat", lesser))

    def test_alien_goes_ahead_of_flat(self):
        flat, alien = ((0, 0), (0, 1), (1, 1)), ((0, 0), (5, 0), (1, 1))
        self.assert_fault_in_all_orders(SQUARE, [flat, alien], ("alien", alien))
        both = ((5, 5), (6, 6), (7, 7))
        self.assert_fault_in_all_orders(SQUARE, [flat, both], ("alien", both))

    def test_double(self):
        self.assert_fault_in_all_orders(SQUARE, LEAST_FAN + OTHER_FAN[:1], ("double", ((0, 0), (1, 0))))
        self.assert_fault_in_all_orders(SQUARE, LEAST_FAN[1:] + OTHER_FAN, ("double", ((0, 1), (0, 0))))

    def test_a_triangle_told_twice_is_double(self):
        self.assert_fault_in_all_orders(SQUARE, LEAST_FAN + LEAST_FAN[:1], ("double", ((0, 0), (1, 0))))
        self.assert_fault_in_all_orders(SQUARE, LEAST_FAN + LEAST_FAN[1:], ("double", ((0, 0), (1, 1))))

    def test_the_least_double(self):
        self.assert_fault(SQUARE, LEAST_FAN + OTHER_FAN, ("double", ((0, 0), (1, 0))))
        self.assert_fault(CENTRED, (CENTRED_NET * 2)[::-1], ("double", ((0, 0), (2, 2))))

    def test_flat_goes_ahead_of_double(self):
        flat = ((0, 0), (0, 1), (1, 1))
        self.assert_fault_in_all_orders(SQUARE, [flat, LEAST_FAN[0], LEAST_FAN[0]], ("flat", flat))

    def test_alien_goes_ahead_of_double(self):
        alien = ((0, 0), (1, 0), (5, 5))
        self.assert_fault_in_all_orders(SQUARE, [alien, LEAST_FAN[0], LEAST_FAN[0]], ("alien", alien))

    def test_no_triangle_leaves_the_outline_bare(self):
        self.assert_fault(SQUARE, [], ("bare", ((0, 0), (1, 0))))
        self.assert_fault(THREE, [], ("bare", ((0, 0), (4, 0))))
        self.assert_fault([(0, 0), (0, 3), (-1, 5)], [], ("bare", ((-1, 5), (0, 0))))

    def test_a_missing_triangle_leaves_a_side_bare(self):
        self.assert_fault(SQUARE, LEAST_FAN[:1], ("bare", ((0, 1), (0, 0))))
        self.assert_fault(SQUARE, LEAST_FAN[1:], ("bare", ((0, 0), (1, 0))))
        # Here the side whose back is missing is the lesser one.
        self.assert_fault(SQUARE, OTHER_FAN[:1], ("bare", ((1, 0), (0, 1))))

    def test_the_back_of_a_side_is_bare_where_no_outline_is(self):
        without = [t for t in CENTRED_NET if t != CENTRED_NET[3]]
        self.assert_fault_in_all_orders(CENTRED, without, ("bare", ((2, 2), (4, 4))))
        without = [t for t in CENTRED_NET if t != CENTRED_NET[0]]
        self.assert_fault_in_all_orders(CENTRED, without, ("bare", ((0, 4), (0, 0))))

    def test_a_place_on_a_stretch_that_is_passed_over(self):
        # The outline goes by way of (1, 0); the triangle does not.
        self.assert_fault([(0, 0), (1, 0), (2, 0), (0, 2)], [((0, 0), (2, 0), (0, 2))], ("bare", ((0, 0), (1, 0))))
        self.assert_fault([(0, 0), (0, 1), (0, 2), (2, 0)], [((0, 0), (2, 0), (0, 2))], ("bare", ((0, 1), (0, 0))))
        self.assert_fault([(0, 0), (2, 2), (1, 3), (0, 4)], [((0, 0), (2, 2), (0, 4))], ("bare", ((1, 3), (0, 4))))

    def test_an_overlap_that_is_not_double(self):
        places = [(0, 0), (4, 0), (0, 4), (4, 4), (1, 1)]
        self.assert_fault(places, [((0, 0), (4, 0), (4, 4)), ((0, 0), (1, 1), (0, 4))], ("bare", ((0, 0), (1, 1))))

    def test_double_goes_ahead_of_bare(self):
        self.assert_fault_in_all_orders(CENTRED, CENTRED_NET[3:] * 2, ("double", ((2, 2), (4, 0))))

    def test_lonely(self):
        places = [(0, 0), (6, 0), (0, 6), (6, 6), (3, 2)]
        two = [((0, 0), (6, 0), (6, 6)), ((0, 0), (6, 6), (0, 6))]
        self.assert_fault_in_all_orders(places, two, ("lonely", (3, 2)))

    def test_the_least_lonely(self):
        places = [(0, 0), (6, 0), (0, 6), (6, 6), (3, 2), (2, 3), (2, 1)]
        two = [((0, 0), (6, 0), (6, 6)), ((0, 0), (6, 6), (0, 6))]
        self.assert_fault_in_all_orders(places, two, ("lonely", (2, 1)))

    def test_bare_goes_ahead_of_lonely(self):
        self.assert_fault(CENTRED, [((0, 0), (4, 0), (4, 4))], ("bare", ((0, 4), (0, 0))))

    def test_lonely_goes_ahead_of_spoilt(self):
        places = [(0, 0), (6, 0), (0, 6), (6, 6), (3, 2)]
        self.assert_fault_in_all_orders(
            places, [((0, 0), (6, 0), (0, 6)), ((0, 6), (6, 0), (6, 6))], ("lonely", (3, 2)))

    def test_spoilt(self):
        self.assert_fault(SQUARE, OTHER_FAN, ("spoilt", OTHER_FAN[0], (1, 1)))
        self.assert_fault(SQUARE, OTHER_FAN[::-1], ("spoilt", OTHER_FAN[1], (0, 0)))

    def test_the_first_spoilt_in_the_list_and_the_least_place(self):
        places = [(-5, 0), (5, 0), (0, 1), (1, -1), (-1, -1)]
        cover = [((-5, 0), (-1, -1), (5, 0)), ((-5, 0), (5, 0), (0, 1)), ((-1, -1), (1, -1), (5, 0))]
        self.assertIsNone(what_is_no_cover(places, cover))
        self.assert_fault(places, cover, ("spoilt", cover[0], (0, 1)))
        self.assert_fault(places, [cover[2], cover[0], cover[1]], ("spoilt", cover[2], (-5, 0)))
        self.assert_fault(places, [cover[1], cover[0], cover[2]], ("spoilt", cover[1], (-1, -1)))

    def test_triangles_ahead_that_none_spoils_are_passed_over(self):
        places = [(0, 0), (2, 0), (0, 2), (2, 2), (4, 1)]
        near, far, good = ((0, 0), (2, 0), (0, 2)), ((0, 2), (2, 0), (2, 2)), ((2, 0), (4, 1), (2, 2))
        self.assert_fault(places, [good, far, near], ("spoilt", far, (0, 0)))
        self.assert_fault(places, [good, near, far], ("spoilt", near, (2, 2)))

    def test_every_cover_but_the_net_is_spoilt(self):
        for places in FEW:
            net = exact_net(places)
            for cover in all_covers(places):
                for triples in [cover, cover[::-1], cover[1:] + cover[:1]]:
                    wanted = None
                    for t in triples[::-1]:
                        spoilers = [d for d in places if spoils_kept(*t, d)]
                        if spoilers:
                            wanted = ("spoilt", t, min(spoilers))
                    self.assertEqual(fault(places, triples), wanted)
                    self.assertEqual(wanted is None, cover == net)

    def test_each_triangle_that_is_missing_from_a_net_leaves_a_bare_side(self):
        for places in [CENTRED, GRID_NINE, RING] + GREAT:
            net = exact_net(places)
            border = exact_border(places)
            for t in net:
                rest = [other for other in net if other != t]
                ways = zip(t, t[1:] + t[:1])
                bare = [(a, b) if (a, b) in border else (b, a) for a, b in ways]
                self.assertEqual(fault(places, rest), ("bare", min(bare)))

    def test_a_side_through_a_place_is_bare(self):
        for a, b in itertools.combinations(GRID_NINE, 2):
            middles = [p for p in GRID_NINE if exact_between(a, b, p)]
            for c in GRID_NINE:
                if middles and twice(a, b, c) > 0:
                    self.assertEqual(fault([a, b, c] + middles, [(a, b, c)] if a < c else [(c, a, b)])[0], "bare")

    def test_sixty_triples(self):
        net = exact_net(GRID_NINE)
        many = (net * 10)[:60]
        self.assertEqual(fault(GRID_NINE, many), ("double", ((0, 0), (1, 0))))
        alien = ((0, 0), (0, 9), (3, 3))
        self.assertEqual(fault(GRID_NINE, many[:59] + [alien]), ("alien", alien))

    def test_forty_figures(self):
        k = 10 ** 38
        places = [(5 * k, 0), (-3 * k, 4 * k), (0, -5 * k), (3 * k, -4 * k)]
        other = [((-3 * k, 4 * k), (0, -5 * k), (5 * k, 0)), ((0, -5 * k), (3 * k, -4 * k), (5 * k, 0))]
        self.assert_fault(places, other, ("spoilt", other[0], (3 * k, -4 * k)))
        places[3] = (3 * k, -4 * k - 1)
        other[1] = ((0, -5 * k), (3 * k, -4 * k - 1), (5 * k, 0))
        self.assert_fault(places, other, None)


if __name__ == "__main__":
    unittest.main()
