"""A place taken out of a net, or refused [26]; with put_in it goes there and back [4]."""

import unittest

from exact import exact_net, spoils_kept
from nearland.errors import NearError, NoPlace
from nearland.putting import put_in
from nearland.taking import taken_out
from owning import assert_own
from samples import ALL, CENTRED, FORTY, LINES, ONE, SQUARE, STRETCHES, TWO, orders, parts_of_a_grid

LEAST_FAN = [((0, 0), (1, 0), (1, 1)), ((0, 0), (1, 1), (0, 1))]


class TakenOut(unittest.TestCase):
    def assert_taken(self, places, p):
        net = exact_net(places)
        others = [q for q in places if q != p]
        left = exact_net(others)
        fallen = [t for t in net if p in t]
        come = [t for t in left if spoils_kept(*t, p)]
        for order in orders(places):
            given = (list(order), list(net))
            self.assertEqual(taken_out(order, net, p), (fallen, come, left))
            self.assertEqual((order, net), given)
        self.assertEqual(sorted([t for t in net if t not in fallen] + come), left)

    def assert_no_place(self, places, p):
        net = exact_net(places)
        given = (list(places), list(net))
        with self.assertRaises(NoPlace) as taken:
            taken_out(places, net, p)
        self.assertEqual(taken.exception.place, p)
        self.assertIsInstance(taken.exception, NearError)
        self.assertEqual((places, net), given)

    def test_of_one_place_and_of_two(self):
        self.assertEqual(taken_out([(3, 4)], [], (3, 4)), ([], [], []))
        self.assertEqual(taken_out([(3, 4), (0, 0)], [], (0, 0)), ([], [], []))
        self.assertEqual(taken_out([(3, 4), (0, 0)], [], (3, 4)), ([], [], []))

    def test_of_three(self):
        three = [((0, 0), (4, 0), (1, 3))]
        for p in three[0]:
            self.assertEqual(taken_out([(1, 3), (4, 0), (0, 0)], three, p), (three, [], []))

    def test_on_a_line_and_beside_it(self):
        for p in [(0, 0), (1, 0), (2, 0)]:
            self.assertEqual(taken_out([(0, 0), (2, 0), (1, 0)], [], p), ([], [], []))
        above = [((0, 0), (1, 0), (1, 5)), ((1, 0), (2, 0), (1, 5))]
        places = [(1, 5), (0, 0), (2, 0), (1, 0)]
        self.assertEqual(taken_out(places, above, (1, 5)), (above, [], []))
        self.assertEqual(taken_out(places, above, (2, 0)), (above[1:], [], above[:1]))
        come = [((0, 0), (2, 0), (1, 5))]
        self.assertEqual(taken_out(places, above, (1, 0)), (above, come, come))

    def test_within_the_outline(self):
        net = exact_net(CENTRED)
        come = [((0, 0), (4, 0), (4, 4)), ((0, 0), (4, 4), (0, 4))]
        self.assertEqual(taken_out(CENTRED, net, (2, 2)), (net, come, come))

    def test_on_a_side_of_the_outline(self):
        fallen = [((0, 0), (2, 0), (0, 3)), ((0, 3), (2, 0), (4, 0))]
        come = [((0, 0), (4, 0), (0, 3))]
        self.assertEqual(taken_out([(0, 3), (2, 0), (0, 0), (4, 0)], fallen, (2, 0)), (fallen, come, come))

    def test_on_a_ring(self):
        self.assertEqual(taken_out(SQUARE, LEAST_FAN, (0, 1)), (LEAST_FAN[1:], [], LEAST_FAN[:1]))
        come = [((0, 0), (1, 0), (0, 1))]
        self.assertEqual(taken_out(SQUARE, LEAST_FAN, (1, 1)), (LEAST_FAN, come, come))
        come = [((0, 1), (1, 0), (1, 1))]
        self.assertEqual(taken_out(SQUARE, LEAST_FAN, (0, 0)), (LEAST_FAN, come, come))

    def test_what_is_not_at_it_stays(self):
        places = SQUARE + [(2, -1), (90, 90), (91, 90), (90, 91), (-40, 60)]
        net = exact_net(places)
        fallen, come, left = taken_out(places, net, (2, -1))
        self.assertEqual(left, exact_net([p for p in places if p != (2, -1)]))
        self.assertTrue(set(net) - set(fallen))
        self.assertEqual(set(net) - set(fallen), set(left) - set(come))

    def test_each_place_of_each_sample(self):
        for places in ALL:
            for p in places:
                self.assert_taken(places, p)

    def test_each_place_of_each_part_of_a_grid(self):
        for places in parts_of_a_grid():
            for p in places:
                left = exact_net([q for q in places if q != p])
                self.assertEqual(taken_out(places, exact_net(places), p)[2], left)

    def test_there_and_back(self):
        for places in ALL:
            net = exact_net(places)
            for p in places:
                others = [q for q in places if q != p]
                fallen, come, left = taken_out(places, net, p)
                self.assertEqual(put_in(others, left, p), (come, fallen, net))

    def test_back_and_there(self):
        for places in [[], ONE, TWO, SQUARE, CENTRED, STRETCHES] + LINES:
            net = exact_net(places)
            for p in [(7, 7), (-1, 3), (2, 5), (FORTY, -FORTY)]:
                if p not in places:
                    fallen, come, more = put_in(places, net, p)
                    self.assertEqual(taken_out(places + [p], more, p), (come, fallen, net))

    def test_one_after_another_till_none_is_left(self):
        for places in ALL:
            left, net = list(places), exact_net(places)
            while left:
                net = taken_out(left, net, left[0])[2]
                left = left[1:]
                self.assertEqual(net, exact_net(left))

    def test_what_is_none_of_the_places_is_refused(self):
        for places in [[], ONE, TWO, SQUARE, CENTRED, STRETCHES] + LINES:
            for p in [(7, 70), (-1, 30), (FORTY, -FORTY), (3, 2)]:
                self.assert_no_place(places, p)

    def test_the_told_lists_belong_to_whoever_asked(self):
        for places in [ONE, TWO, SQUARE, CENTRED]:
            for p in places:
                assert_own(self, taken_out, places, exact_net(places), p)


if __name__ == "__main__":
    unittest.main()
