"""Wrong sides and sides turned over [18] [4], the turnings [19], and what they do to the sharpest corner [20]."""

import itertools
import unittest

from exact import (
    all_covers, as_triangle, exact_measure, exact_net, exact_sharpest, exact_sides, exact_turned, exact_wrong,
    what_is_no_cover,
)
from nearland.errors import Stiff
from nearland.measures import measure, sharpest
from nearland.sweeps import swept
from nearland.turning import turned_over, turnings, wrong
from samples import ALL, FEW, FORTY, RING

LEAST_FAN = [((0, 0), (1, 0), (1, 1)), ((0, 0), (1, 1), (0, 1))]
OTHER_FAN = [((0, 0), (1, 0), (0, 1)), ((0, 1), (1, 0), (1, 1))]


def covers():
    """Every cover of few places, and one of each sample."""
    for places in FEW:
        for cover in all_covers(places):
            yield places, cover
    for places in ALL:
        yield places, swept(places)


class Wrong(unittest.TestCase):
    def test_written_ones(self):
        self.assertEqual(wrong([]), [])
        self.assertEqual(wrong([((0, 0), (4, 0), (0, 3))]), [])
        self.assertEqual(wrong(LEAST_FAN), [])
        self.assertEqual(wrong(OTHER_FAN), [((0, 1), (1, 0))])

    def test_a_place_within_the_ring(self):
        flat = [((-9, 0), (9, 0), (0, 1)), ((-9, 0), (0, -1), (9, 0))]
        self.assertEqual(wrong(flat), [((-9, 0), (9, 0))])
        upright = [((-9, 0), (0, -1), (0, 1)), ((0, -1), (9, 0), (0, 1))]
        self.assertEqual(wrong(upright), [])

    def test_sorted_and_as_exact(self):
        for places, cover in covers():
            given = list(cover)
            self.assertEqual(wrong(cover), exact_wrong(cover))
            self.assertEqual(cover, given)

    def test_just_the_net_has_none(self):
        for places in FEW:
            for cover in all_covers(places):
                self.assertEqual(wrong(cover) == [], cover == exact_net(places))

    def test_forty_figures(self):
        k = 10 ** 38
        for below, wanted in [(0, [((0, -5 * k), (5 * k, 0))]), (1, [])]:
            far = (3 * k, -4 * k - below)
            cover = [((-3 * k, 4 * k), (0, -5 * k), (5 * k, 0)), ((0, -5 * k), far, (5 * k, 0))]
            self.assertEqual(wrong(cover), wanted)

    def test_the_told_list_belongs_to_whoever_asked(self):
        cover = list(OTHER_FAN)
        wrong(cover).clear()
        told = wrong(cover)
        cover.clear()
        self.assertEqual(told, [((0, 1), (1, 0))])


class TurnedOver(unittest.TestCase):
    def assert_stiff(self, cover, one):
        given = list(cover)
        with self.assertRaises(Stiff) as taken:
            turned_over(cover, one)
        self.assertEqual(taken.exception.side, one)
        self.assertEqual(cover, given)

    def test_written_ones(self):
        self.assertEqual(turned_over(OTHER_FAN, ((0, 1), (1, 0))), LEAST_FAN)
        self.assertEqual(turned_over(LEAST_FAN, ((0, 0), (1, 1))), OTHER_FAN)

    def test_a_side_that_is_not_wrong_is_turned_too(self):
        upright = [((-9, 0), (0, -1), (0, 1)), ((0, -1), (9, 0), (0, 1))]
        flat = [((-9, 0), (0, -1), (9, 0)), ((-9, 0), (9, 0), (0, 1))]
        self.assertEqual(turned_over(upright, ((0, -1), (0, 1))), flat)

    def test_ends_on_one_side_of_the_far_corners_are_refused(self):
        self.assert_stiff([((0, 0), (4, 4), (0, 9)), ((0, 0), (9, 0), (4, 4))], ((0, 0), (4, 4)))
        self.assertEqual(
            turned_over([((0, 0), (5, 5), (0, 9)), ((0, 0), (9, 0), (5, 5))], ((0, 0), (5, 5))),
            [((0, 0), (9, 0), (0, 9)), ((0, 9), (9, 0), (5, 5))])

    def test_an_end_in_line_with_the_far_corners_is_refused(self):
        self.assert_stiff([((0, 0), (2, 2), (0, 4)), ((0, 0), (4, 0), (2, 2))], ((0, 0), (2, 2)))
        self.assert_stiff([((0, 4), (2, 2), (4, 4)), ((2, 2), (4, 0), (4, 4))], ((2, 2), (4, 4)))
        self.assert_stiff([((0, 0), (2, 0), (2, 3)), ((2, 0), (5, 0), (2, 3))], ((2, 0), (2, 3)))

    def test_a_side_of_the_outline_is_refused(self):
        for one in [((0, 0), (1, 0)), ((0, 0), (0, 1)), ((0, 1), (1, 1)), ((1, 0), (1, 1))]:
            self.assert_stiff(LEAST_FAN, one)
            self.assert_stiff(LEAST_FAN, one[::-1])

    def test_the_back_of_a_side_is_refused(self):
        self.assert_stiff(OTHER_FAN, ((1, 0), (0, 1)))
        self.assert_stiff(LEAST_FAN, ((1, 1), (0, 0)))

    def test_what_is_no_side_of_the_cover_is_refused(self):
        self.assert_stiff(LEAST_FAN, ((0, 1), (1, 0)))
        self.assert_stiff(LEAST_FAN, ((1, 1), (1, 1)))
        self.assert_stiff(LEAST_FAN, ((0, 0), (7, 8)))
        self.assert_stiff(LEAST_FAN, ((5, 6), (7, 8)))
        self.assert_stiff([], ((0, 0), (1, 1)))
        self.assert_stiff([], ((0, 0), (0, 0)))

    def test_any_two_places_of_any_cover(self):
        for places, cover in covers():
            for one in itertools.product(places[:9], repeat=2):
                wanted = exact_turned(cover, one)
                if wanted is None:
                    self.assert_stiff(cover, one)
                else:
                    given = list(cover)
                    made = turned_over(cover, one)
                    self.assertEqual(made, wanted)
                    self.assertEqual(cover, given)
                    self.assertIsNone(what_is_no_cover(places, made))

    def test_a_wrong_side_can_be_turned_and_makes_the_measures_less(self):
        for places, cover in covers():
            for one in wrong(cover):
                self.assertLess(measure(places, turned_over(cover, one)), measure(places, cover))

    def test_a_wrong_side_turned_never_makes_the_sharpest_corner_greater(self):
        for places, cover in covers():
            for one in wrong(cover):
                before, behind = sharpest(cover), sharpest(turned_over(cover, one))
                self.assertLessEqual(behind[0] * before[1], before[0] * behind[1])

    def test_forty_figures(self):
        cover = [((-FORTY, 0), (0, -1), (FORTY, 0)), ((-FORTY, 0), (FORTY, 0), (0, 1))]
        wanted = [((-FORTY, 0), (0, -1), (0, 1)), ((0, -1), (FORTY, 0), (0, 1))]
        self.assertEqual(turned_over(cover, ((-FORTY, 0), (FORTY, 0))), wanted)

    def test_the_told_list_belongs_to_whoever_asked(self):
        cover = list(OTHER_FAN)
        turned_over(cover, ((0, 1), (1, 0))).clear()
        told = turned_over(cover, ((0, 1), (1, 0)))
        cover.clear()
        self.assertEqual(told, LEAST_FAN)


class Turnings(unittest.TestCase):
    def assert_turnings(self, places, cover):
        """Each turn is done again by hand."""
        given = list(cover)
        made = turnings(cover)
        self.assertEqual((made.__class__, len(made), made[0].__class__), (tuple, 2, list))
        self.assertEqual(cover, given)
        gone = []
        for went, came in made[0]:
            self.assertIn(went, exact_wrong(given))
            behind = exact_turned(given, went)
            self.assertEqual([came], [one for one in exact_sides(behind) if one not in exact_sides(given)])
            self.assertLess(exact_measure(places, behind), exact_measure(places, given))
            self.assertLessEqual(exact_sharpest(behind), exact_sharpest(given))
            gone.append(went)
            self.assertNotIn(came, gone)
            given = behind
        self.assertEqual(made[1], given)
        self.assertEqual(made[1], exact_net(places))

    def test_written_ones(self):
        self.assertEqual(turnings([]), ([], []))
        self.assertEqual(turnings(LEAST_FAN), ([], LEAST_FAN))
        self.assertEqual(turnings(OTHER_FAN), ([(((0, 1), (1, 0)), ((0, 0), (1, 1)))], LEAST_FAN))

    def test_from_every_cover(self):
        for places, cover in covers():
            self.assert_turnings(places, cover)

    def test_from_a_cover_far_from_the_net(self):
        # The net is the fan from the least place of the ring; this is the one from the last.
        far = max(RING)
        others = [p for p in RING if p != far]
        cover = sorted(as_triangle(far, a, b) for a, b in zip(others, others[1:]))
        self.assertIsNone(what_is_no_cover(RING, cover))
        self.assert_turnings(RING, cover)
        self.assertGreater(len(turnings(cover)[0]), 4)

    def test_the_told_lists_belong_to_whoever_asked(self):
        for cover in [list(LEAST_FAN), list(OTHER_FAN)]:
            given = list(cover)
            wanted = (list(turnings(cover)[0]), LEAST_FAN)
            first = turnings(cover)
            first[0].append("more")
            first[1].clear()
            self.assertEqual(cover, given)
            second = turnings(cover)
            cover.clear()
            self.assertEqual(second, wanted)


if __name__ == "__main__":
    unittest.main()
