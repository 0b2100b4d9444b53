"""Numbers read and told as texts, or refused [41]."""

import unittest

from nearland.errors import NearError, NoNumber
from nearland.texts import read_number, show_number, show_point
from samples import FORTY

NINES = "9" * 40


class ReadNumber(unittest.TestCase):
    def test_whole_ones(self):
        for text, wanted in [
            ("0", 0), ("5", 5), ("-5", -5), ("10", 10), ("-0", 0), ("007", 7), ("-007", -7), ("000", 0), (NINES, FORTY),
            ("-" + NINES, -FORTY), ("0" * 39 + "1", 1), ("-" + "0" * 40, 0), ("1234567890", 1234567890),
        ]:
            self.assertEqual(read_number(text), (wanted, 1))

    def test_fractions_in_lowest_terms(self):
        for text, wanted in [
            ("-06/4", (-3, 2)), ("1/2", (1, 2)), ("4/2", (2, 1)), ("0/7", (0, 1)), ("-0/7", (0, 1)), ("-6/3", (-2, 1)),
            ("1/002", (1, 2)), ("10/0100", (1, 10)), (NINES + "/" + NINES, (1, 1)), ("-" + NINES + "/2", (-FORTY, 2)),
            ("1/" + NINES, (1, FORTY)), ("1/" + "0" * 39 + "3", (1, 3)), ("10/40", (1, 4)), ("7/10", (7, 10)),
        ]:
            self.assertEqual(read_number(text), wanted)

    def test_each_figure(self):
        for k, figure in enumerate("0123456789"):
            self.assertEqual(read_number(figure), (k, 1))
            self.assertEqual(read_number("1/1" + figure), (1, 10 + k))

    def test_what_is_no_number_is_refused(self):
        for text in [
            "", "-", "/", "-/", "--1", "+1", "1-", "1/", "/2", "-/2", "1/-2", "1/+2", "1//2", "1/2/3", "1/0", "-3/000",
            "0/0", "1/2/", "1.5", "1,5", "1e3", "x", "a1", "1a", " 1", "1 ", "1 2", "1/ 2", "- 1", "1\n", "\n1", "1_0",
            "0x1", "1/x", "x/1", "\u0661", "\u00b2", "1/\u00b2", "\u00bd", "\u22121", "None", "#", "1#", "%",
        ]:
            with self.assertRaises(NoNumber, msg=repr(text)) as taken:
                read_number(text)
            self.assertIsInstance(taken.exception, NearError)

    def test_forty_figures_and_one_more(self):
        for text in ["1" + NINES, "-1" + NINES, "0" * 41, "1/" + "0" * 40 + "1", NINES + "9/7", "1/" + NINES + "0"]:
            with self.assertRaises(NoNumber):
                read_number(text)
        self.assertEqual(read_number("-" + NINES + "/" + NINES[1:] + "8"), (-FORTY, FORTY - 1))

    def test_as_often_as_asked(self):
        for k in range(3):
            self.assertEqual(read_number("-06/4"), (-3, 2))
            with self.assertRaises(NoNumber):
                read_number("06/-4")


class ShowNumber(unittest.TestCase):
    def test_written_ones(self):
        for one, wanted in [
            ((0, 1), "0"), ((5, 1), "5"), ((-5, 1), "-5"), ((-3, 2), "-3/2"), ((1, 10), "1/10"), ((FORTY, 1), NINES),
            ((-FORTY, 2), "-" + NINES + "/2"), ((1, FORTY), "1/" + NINES), ((100, 1), "100"),
        ]:
            self.assertEqual(show_number(one), wanted)

    def test_three_hundred_figures(self):
        self.assertEqual(show_number((1 - 10 ** 300, 10 ** 299)), "-" + "9" * 300 + "/1" + "0" * 299)

    def test_there_and_back(self):
        for top in range(-12, 13):
            for bottom in range(1, 8):
                one = read_number(f"{top}/{bottom}")
                self.assertEqual(read_number(show_number(one)), one)


class ShowPoint(unittest.TestCase):
    def test_written_ones(self):
        for X, wanted in [
            (((0, 1), (0, 1)), "0,0"), (((1, 2), (-3, 1)), "1/2,-3"), (((-1, 2), (7, 3)), "-1/2,7/3"),
            (((FORTY, 1), (1, FORTY)), NINES + ",1/" + NINES),
        ]:
            self.assertEqual(show_point(X), wanted)


if __name__ == "__main__":
    unittest.main()
