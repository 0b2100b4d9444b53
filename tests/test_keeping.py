"""The faults of kept sides [28], the one cover with them [29], and what they shut off [30] [4]."""

import itertools
import unittest
from fractions import Fraction

from exact import all_covers, exact_between, exact_net, exact_sides, pair_of, side, spoils_kept, what_is_no_cover
from exact_more import exact_kept_fault, exact_meets, exact_shut, keeps
from nearland.crossings import shut
from nearland.errors import Crossed, NearError
from nearland.keeping import kept_fault, kept_net
from owning import assert_own
from samples import (
    ALL, CENTRED, FEW, FORTY, GRID_NINE, HEXAGON, LARGE, LINES, ONE, SQUARE, STRETCHES, TWO, blown_up, orders,
)

LEAST_FAN = [((0, 0), (1, 0), (1, 1)), ((0, 0), (1, 1), (0, 1))]
OTHER_FAN = [((0, 0), (1, 0), (0, 1)), ((0, 1), (1, 0), (1, 1))]
# Points within a triangle, by how much each of its corners weighs.
WEIGHTS = [(1, 1, 1), (98, 1, 1), (1, 98, 1), (1, 1, 98), (50, 49, 1), (1, 50, 49), (50, 1, 49)]


def some_kept(places, step, most):
    """A list of sides without fault, gathered out of all pairs of places by a step through them."""
    pairs = [side(a, b) for a, b in itertools.combinations(sorted(places), 2)]
    kept = []
    for k in range(len(pairs)):
        one = pairs[(k * step + step) % len(pairs)]
        fits = not any(exact_meets(one, other) for other in kept)
        if len(kept) < most and fits and not any(exact_between(*one, p) for p in places):
            kept.append(one)
    return kept


def kept_lists(places):
    return [some_kept(places, step, most) for step, most in [(1, 1), (7, 1), (11, 2), (13, 4), (17, 60), (19, 60)]]


def within(t, weights):
    """A point within a triangle."""
    numbers = [sum(Fraction(w * corner[k], sum(weights)) for w, corner in zip(weights, t)) for k in (0, 1)]
    return (pair_of(numbers[0]), pair_of(numbers[1]))


class KeptFault(unittest.TestCase):
    def assert_fault(self, places, kept, wanted):
        given = list(kept)
        for order in orders(places):
            self.assertEqual(kept_fault(order, kept), wanted)
        self.assertEqual(kept, given)

    def test_none(self):
        for places in [[], ONE, TWO, SQUARE]:
            self.assert_fault(places, [], None)
        self.assert_fault(SQUARE, [((0, 0), (1, 1)), ((0, 0), (0, 1))], None)
        self.assert_fault(CENTRED, [((0, 0), (2, 2)), ((2, 2), (4, 4)), ((0, 4), (2, 2))], None)

    def test_alien(self):
        good = ((0, 0), (1, 1))
        for bad in [((0, 0), (2, 2)), ((-1, 0), (0, 0)), ((7, 7), (8, 8)), ((1, 1), (0, 0)), ((1, 1), (1, 1))]:
            self.assert_fault(SQUARE, [bad], ("alien", bad))
            self.assert_fault(SQUARE, [good, bad, ((9, 9), (10, 10))], ("alien", bad))
            self.assert_fault([], [bad], ("alien", bad))

    def test_through(self):
        self.assert_fault(CENTRED, [((0, 0), (4, 4))], ("through", ((0, 0), (4, 4)), (2, 2)))
        line = [(3, 3), (0, 0), (2, 2), (1, 1)]
        self.assert_fault(line, [((2, 2), (3, 3)), ((0, 0), (3, 3))], ("through", ((0, 0), (3, 3)), (1, 1)))
        down = [(3, -3), (0, 0), (2, -2), (1, -1)]
        kept = [((0, 0), (2, -2)), ((0, 0), (3, -3))]
        self.assert_fault(down, kept, ("through", kept[0], (1, -1)))
        self.assert_fault(down, kept[::-1], ("through", kept[1], (1, -1)))

    def test_crossed(self):
        one, other = ((0, 0), (1, 1)), ((0, 1), (1, 0))
        self.assert_fault(SQUARE, [one, other], ("crossed", one, other))
        self.assert_fault(SQUARE, [other, one], ("crossed", other, one))
        self.assert_fault(SQUARE, [one, one], ("crossed", one, one))
        self.assert_fault(SQUARE, [other, ((0, 0), (0, 1)), other], ("crossed", other, other))

    def test_the_first_that_is_crossed_and_the_first_ahead_of_it(self):
        places = [(0, 0), (0, 2), (1, 0), (1, 3), (2, 0), (2, 2)]
        up, rise, fall = ((1, 0), (1, 3)), ((0, 0), (2, 2)), ((0, 2), (2, 0))
        self.assert_fault(places, [up, rise, fall], ("crossed", up, rise))
        self.assert_fault(places, [((0, 0), (0, 2)), fall, up, rise], ("crossed", fall, up))
        self.assert_fault(places, [((0, 2), (1, 3)), rise, up, fall], ("crossed", rise, up))
        # Both that stand ahead are met: the first of them is told.
        apart = [(0, 0), (0, 4), (1, 0), (1, 4), (-1, 2), (3, 2)]
        first, second, long = ((0, 0), (0, 4)), ((1, 0), (1, 4)), ((-1, 2), (3, 2))
        self.assert_fault(apart, [second, first, long], ("crossed", second, long))
        self.assert_fault(apart, [first, second, long], ("crossed", first, long))

    def test_of_two_faults_the_one_listed_first(self):
        places = CENTRED + [(6, 1)]
        alien, through = ((0, 0), (9, 9)), ((0, 4), (4, 0))
        one, other = ((2, 2), (6, 1)), ((4, 0), (4, 4))
        self.assert_fault(places, [one, other], ("crossed", one, other))
        self.assert_fault(places, [one, other, through], ("through", through, (2, 2)))
        self.assert_fault(places, [one, other, through, alien], ("alien", alien))
        self.assert_fault(places, [through, alien], ("alien", alien))
        self.assert_fault(places, [other, other, alien], ("alien", alien))

    def test_all_pairs_of_sides_of_a_grid(self):
        sides = [side(a, b) for a, b in itertools.combinations(GRID_NINE, 2)]
        for kept in itertools.product(sides, sides):
            self.assertEqual(kept_fault(GRID_NINE, list(kept)), exact_kept_fault(GRID_NINE, list(kept)))

    def test_sixty_sides(self):
        for places in LARGE:
            sides = [side(a, b) for a, b in itertools.combinations(places, 2)]
            for kept in [sides[:60], sides[::2], sides[5:7], exact_sides(exact_net(places))]:
                self.assertEqual(kept_fault(places, kept), exact_kept_fault(places, kept))

    def test_forty_figures(self):
        places = [(-FORTY, -FORTY), (FORTY, FORTY), (0, 1), (1, 0), (2, 2)]
        long = ((-FORTY, -FORTY), (FORTY, FORTY))
        self.assert_fault(places, [long], ("through", long, (2, 2)))
        self.assert_fault(places[:4], [long, ((0, 1), (1, 0))], ("crossed", long, ((0, 1), (1, 0))))
        self.assert_fault(places[:4], [long, ((0, 1), (FORTY, FORTY))], None)


class KeptNet(unittest.TestCase):
    def assert_kept(self, places, kept):
        """What the document says of it; there is one such cover, so it is this one."""
        cover = kept_net(places, kept)
        self.assertIsNone(what_is_no_cover(places, cover))
        if cover:
            self.assertTrue(keeps(cover, kept), (places, kept))
        return cover

    def test_with_none_it_is_the_net(self):
        for places in ALL:
            self.assertEqual(kept_net(places, []), exact_net(places))

    def test_of_few_places(self):
        for places in [[], ONE]:
            self.assertEqual(kept_net(places, []), [])
        self.assertEqual(kept_net([(4, 1), (-2, 7)], [((-2, 7), (4, 1))]), [])
        three = [((0, 0), (4, 0), (0, 3))]
        self.assertEqual(kept_net([(4, 0), (0, 3), (0, 0)], exact_sides(three)), three)

    def test_on_a_line(self):
        for places in LINES:
            line = sorted(places)
            between = list(zip(line, line[1:]))
            for kept in [[], between, between[::-1], between[1:]]:
                self.assertEqual(kept_net(places, kept), [])

    def test_a_side_against_the_net(self):
        self.assertEqual(kept_net(SQUARE, [((0, 1), (1, 0))]), OTHER_FAN)
        self.assertEqual(kept_net(SQUARE, [((0, 0), (1, 1))]), LEAST_FAN)
        flat = [((-9, 0), (9, 0), (0, 1)), ((-9, 0), (0, -1), (9, 0))]
        places = [(9, 0), (0, 1), (-9, 0), (0, -1)]
        self.assertEqual(kept_net(places, [((-9, 0), (9, 0))]), sorted(flat))

    def test_a_long_side_through_many(self):
        places = [(0, 0), (9, 0)] + [(x, y) for x in (2, 4, 5, 7) for y in (-2, 1)]
        cover = self.assert_kept(places, [((0, 0), (9, 0))])
        self.assertNotIn(((0, 0), (9, 0)), exact_sides(exact_net(places)))
        self.assertIn(((0, 0), (9, 0)), exact_sides(cover))

    def test_a_long_side_past_bays(self):
        high = [(1, 8), (2, 1), (3, 9), (4, 2), (5, 1), (6, 7), (7, 1), (8, 8)]
        low = [(1, -1), (2, -9), (3, -1), (4, -7), (5, -2), (6, -1)]
        for places in [high + low, [(x, -y) for x, y in high + low], high + [(x + 1, y) for x, y in low]]:
            self.assert_kept(places + [(0, 0), (9, 0)], [((0, 0), (9, 0))])
            self.assert_kept([(y, x) for x, y in places + [(0, 0), (9, 0)]], [((0, 0), (0, 9))])

    def test_ends_far_off_that_are_as_far(self):
        high = [(1, 5), (2, 5), (3, 5), (4, 5), (5, 5)]
        for low in [[(3, -4)], [(2, -4), (3, -4), (5, -4)], [(1, -1), (2, -4), (6, -4)]]:
            self.assert_kept(high + low + [(0, 0), (9, 0)], [((0, 0), (9, 0))])

    def test_one_cover_of_all_covers(self):
        for places in FEW:
            covers = all_covers(places)
            for kept in kept_lists(places):
                found = [cover for cover in covers if cover == [] or keeps(cover, kept)]
                for order in [kept, kept[::-1]]:
                    given = list(order)
                    self.assertEqual([kept_net(places, order)], found)
                    self.assertEqual(order, given)

    def test_all_sides_of_a_cover_kept(self):
        for places in FEW:
            for cover in all_covers(places):
                if cover:
                    self.assertEqual(kept_net(places, exact_sides(cover)), cover)

    def test_each_side_of_few_places(self):
        for places in [CENTRED, STRETCHES, HEXAGON, GRID_NINE]:
            for one in [side(a, b) for a, b in itertools.combinations(places, 2)]:
                if exact_kept_fault(places, [one]) is None:
                    self.assert_kept(places, [one])

    def test_many_places(self):
        for places in LARGE:
            for kept in kept_lists(places):
                wanted = self.assert_kept(places, kept)
                for order in orders(places)[1:3]:
                    self.assertEqual(kept_net(order, kept[::-1]), wanted)

    def test_forty_figures(self):
        for places in [blown_up(SQUARE, 10 ** 39, 0, 0), blown_up(GRID_NINE, 10 ** 39, 5, -3)]:
            self.assert_kept(places, [side(places[1], places[2])] if len(places) == 4 else some_kept(places, 7, 60))

    def test_a_fault_is_refused(self):
        for places, kept in [
            (SQUARE, [((0, 0), (1, 1)), ((0, 1), (1, 0))]), (SQUARE, [((0, 0), (1, 1))] * 2),
            (SQUARE, [((1, 1), (0, 0))]), (SQUARE, [((0, 0), (1, 1)), ((9, 9), (9, 9)), ((0, 1), (1, 0))]),
            (CENTRED, [((0, 0), (4, 4))]), ([], [((0, 0), (1, 1))]), (ONE, [(ONE[0], ONE[0])]),
            (LINES[0], [((0, 0), (2, 2))]), (LINES[0], [((0, 0), (1, 1)), ((0, 0), (1, 1))]),
        ]:
            given = (list(places), list(kept))
            with self.assertRaises(Crossed) as taken:
                kept_net(places, kept)
            self.assertEqual(taken.exception.fault, exact_kept_fault(places, kept))
            self.assertEqual(taken.exception.fault, kept_fault(places, kept))
            self.assertIsInstance(taken.exception, NearError)
            self.assertEqual((places, kept), given)

    def test_the_told_list_belongs_to_whoever_asked(self):
        for places, kept in [(SQUARE, [((0, 1), (1, 0))]), (CENTRED, []), (ONE, []), (LINES[0], [((0, 0), (1, 1))])]:
            assert_own(self, kept_net, places, kept)


class ShutOff(unittest.TestCase):
    def assert_shut_off(self, places, kept):
        found = 0
        for t in kept_net(places, kept):
            for d in [p for p in places if spoils_kept(*t, p)]:
                for weights in WEIGHTS:
                    X = within(t, weights)
                    told = shut(kept, X, d)
                    self.assertIsNotNone(told, (places, kept, t, d, X))
                    self.assertEqual(told, exact_shut(kept, X, d))
                    found += 1
        return found

    def test_what_spoils_a_triangle_is_shut_off_from_its_inside(self):
        found = 0
        for places in FEW + LARGE[::3]:
            for kept in kept_lists(places)[1:5]:
                found += self.assert_shut_off(places, kept)
        self.assertGreater(found, 1000)

    def test_written_one(self):
        kept = [((0, 1), (1, 0))]
        X = ((1, 3), (1, 3))
        self.assertEqual(shut(kept, X, (1, 1)), kept[0])
        self.assertIsNone(shut(kept, X, (0, 0)))
        self.assertIsNone(shut(kept, X, (1, 0)))


if __name__ == "__main__":
    unittest.main()
