"""The refusals and their fields (interface, nearland/errors.py)."""

import unittest

from nearland.errors import Crossed, Flat, NearError, NoNumber, NoPlace, Stiff, Twice

KINDS = [NoNumber, Flat, Twice, NoPlace, Stiff, Crossed]


class Standing(unittest.TestCase):
    def test_near_error_is_a_value_error(self):
        self.assertTrue(issubclass(NearError, ValueError))

    def test_each_stands_straight_under_near_error(self):
        for kind in KINDS:
            self.assertEqual(kind.__bases__, (NearError,))

    def test_none_stands_under_another(self):
        for kind in KINDS:
            for other in KINDS:
                self.assertEqual(issubclass(kind, other), kind is other)


class Fields(unittest.TestCase):
    def test_place_of_twice(self):
        for p in [(0, 0), (-3, 10 ** 40 - 1)]:
            self.assertEqual(Twice(p).place, p)

    def test_place_of_no_place(self):
        for p in [(0, 0), (1 - 10 ** 40, 7)]:
            self.assertEqual(NoPlace(p).place, p)

    def test_side_of_stiff(self):
        for side in [((0, 0), (1, 2)), ((1, 2), (0, 0)), ((5, 5), (5, 5))]:
            self.assertEqual(Stiff(side).side, side)

    def test_fault_of_crossed(self):
        faults = [
            ("alien", ((0, 0), (1, 2))),
            ("through", ((0, 0), (2, 2)), (1, 1)),
            ("crossed", ((0, 0), (2, 2)), ((0, 2), (2, 0))),
        ]
        for fault in faults:
            self.assertEqual(Crossed(fault).fault, fault)

    def test_no_number_and_flat_are_made_of_a_text(self):
        self.assertEqual(str(NoNumber("some words")), "some words")
        self.assertEqual(str(Flat("other words")), "other words")

    def test_two_errors_do_not_share_their_value(self):
        one = Twice((1, 1))
        Twice((2, 2))
        self.assertEqual(one.place, (1, 1))

    def test_the_field_is_there_when_the_error_is_taken(self):
        with self.assertRaises(NearError) as taken:
            raise NoPlace((3, 4))
        self.assertEqual(taken.exception.place, (3, 4))


if __name__ == "__main__":
    unittest.main()
