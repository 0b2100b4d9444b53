"""A place put into a net, or refused [22]."""

import unittest

from exact import exact_net, spoils_kept
from nearland.errors import Twice
from nearland.putting import put_in
from owning import assert_own
from samples import ALL, CENTRED, FORTY, LINES, ONE, SQUARE, STRETCHES, TWO, orders, parts_of_a_grid

LEAST_FAN = [((0, 0), (1, 0), (1, 1)), ((0, 0), (1, 1), (0, 1))]


class PutIn(unittest.TestCase):
    def assert_put(self, places, p):
        net = exact_net(places)
        whole = exact_net(places + [p])
        fallen = [t for t in net if spoils_kept(*t, p)]
        come = [t for t in whole if p in t]
        for order in orders(places):
            given = (list(order), list(net))
            self.assertEqual(put_in(order, net, p), (fallen, come, whole))
            self.assertEqual((order, net), given)
        self.assertEqual(sorted([t for t in net if t not in fallen] + come), whole)

    def assert_twice(self, places, net, p):
        given = (list(places), list(net))
        with self.assertRaises(Twice) as taken:
            put_in(places, net, p)
        self.assertEqual(taken.exception.place, p)
        self.assertEqual((places, net), given)

    def test_into_no_place_one_and_two(self):
        self.assertEqual(put_in([], [], (3, 4)), ([], [], []))
        self.assertEqual(put_in([(3, 4)], [], (0, 0)), ([], [], []))
        self.assertEqual(put_in([(4, 0), (0, 0)], [], (2, 0)), ([], [], []))
        three = [((0, 0), (4, 0), (1, 3))]
        self.assertEqual(put_in([(4, 0), (0, 0)], [], (1, 3)), ([], three, three))
        self.assertEqual(put_in([(1, 3), (4, 0)], [], (0, 0)), ([], three, three))

    def test_onto_a_line_and_beside_it(self):
        line = [(0, 0), (2, 0), (1, 0)]
        for p in [(3, 0), (-1, 0)]:
            self.assertEqual(put_in(line, [], p), ([], [], []))
        above = [((0, 0), (1, 0), (1, 5)), ((1, 0), (2, 0), (1, 5))]
        self.assertEqual(put_in(line, [], (1, 5)), ([], above, above))
        below = [((0, 0), (1, -5), (1, 0)), ((1, -5), (2, 0), (1, 0))]
        self.assertEqual(put_in(line, [], (1, -5)), ([], below, below))

    def test_within_the_outline(self):
        wanted = exact_net(CENTRED)
        places = [p for p in CENTRED if p != (2, 2)]
        self.assertEqual(put_in(places, exact_net(places), (2, 2)), (exact_net(places), wanted, wanted))

    def test_on_a_side_of_the_outline(self):
        come = [((0, 0), (2, 0), (0, 3)), ((0, 3), (2, 0), (4, 0))]
        fallen = [((0, 0), (4, 0), (0, 3))]
        self.assertEqual(put_in([(0, 3), (0, 0), (4, 0)], fallen, (2, 0)), (fallen, come, come))

    def test_in_line_with_a_side_of_the_outline(self):
        come = [((0, 3), (4, 0), (9, 0))]
        stay = [((0, 0), (4, 0), (0, 3))]
        self.assertEqual(put_in([(0, 3), (0, 0), (4, 0)], stay, (9, 0)), ([], come, stay + come))

    def test_on_a_ring(self):
        self.assertEqual(put_in([(0, 0), (1, 0), (1, 1)], LEAST_FAN[:1], (0, 1)), ([], LEAST_FAN[1:], LEAST_FAN))
        other = [((0, 0), (1, 0), (0, 1))]
        self.assertEqual(put_in([(0, 0), (1, 0), (0, 1)], other, (1, 1)), (other, LEAST_FAN, LEAST_FAN))
        other = [((0, 1), (1, 0), (1, 1))]
        self.assertEqual(put_in([(1, 1), (1, 0), (0, 1)], other, (0, 0)), (other, LEAST_FAN, LEAST_FAN))

    def test_what_it_does_not_spoil_stays(self):
        places = SQUARE + [(90, 90), (91, 90), (90, 91), (-40, 60)]
        fallen, come, net = put_in(places, exact_net(places), (2, -1))
        self.assertEqual(net, exact_net(places + [(2, -1)]))
        self.assertTrue(set(exact_net(places)) - set(fallen))
        self.assertEqual(set(exact_net(places)) - set(fallen), set(net) - set(come))

    def test_each_place_of_each_sample(self):
        for places in ALL:
            for p in places:
                self.assert_put([q for q in places if q != p], p)

    def test_each_place_of_a_grid_into_each_part_of_it(self):
        for places in parts_of_a_grid():
            for p in places:
                others = [q for q in places if q != p]
                self.assertEqual(put_in(others, exact_net(others), p)[2], exact_net(places))

    def test_forty_figures(self):
        for p in [(0, 0), (FORTY, 1), (-FORTY, FORTY), (1, -FORTY), (FORTY, FORTY)]:
            self.assert_put([(FORTY, 0), (-FORTY, 0), (0, FORTY), (0, -FORTY)], p)

    def test_one_of_the_places_is_refused(self):
        for places in [ONE, TWO, SQUARE, CENTRED, STRETCHES] + LINES:
            for p in places:
                self.assert_twice(places, exact_net(places), p)
                self.assert_twice(places, exact_net(places), tuple(list(p)))

    def test_the_told_lists_belong_to_whoever_asked(self):
        for places in [[], ONE, TWO, SQUARE]:
            for p in [(0, -1), (5, 5)]:
                assert_own(self, put_in, places, exact_net(places), p)


if __name__ == "__main__":
    unittest.main()
