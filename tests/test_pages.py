"""Pages of rows and their answers [41] [42]."""

import random
import unittest

from exact_page import exact_answers
from nearland.pages import answers
from samples import FORTY, FULL_RING, GRID_SIXTEEN, GREAT_SIXTEEN, scattered

SQUARE = "at a 0 0\nat b 1 0\nat c 0 1\nat d 1 1\n"
CENTRED = "at a 0 0\nat b 4 0\nat c 4 4\nat d 0 4\nat m 2 2\n"
NINES = "9" * 40


def page_of(places):
    return "".join(f"at p{k} {x} {y}\n" for k, (x, y) in enumerate(places))


class Case(unittest.TestCase):
    def assert_last(self, page, wanted):
        """The last row's answer, and all of them as they are reckoned anew."""
        told = answers(page)
        self.assertEqual(told[-1], wanted, page)
        self.assertEqual(told, exact_answers(page))

    def assert_rows(self, head, rows):
        """Row by row what is answered, behind the rows of the head."""
        told = answers(head + "\n".join(row for row, wanted in rows))
        self.assertEqual(list(zip([row for row, wanted in rows], told[-len(rows):])), rows)


class Rows(Case):
    def test_nothing_has_no_answer(self):
        for page in ["", "\n", "\n\n\n", "   ", " \n  \n", "#", "# at a 1 2", "   # net\n#\n\n   #x"]:
            self.assertEqual(answers(page), [])

    def test_one_text_for_each_row(self):
        self.assertEqual(answers("at a 0 0\n\nat b 1 0\n   \n# more\nnet\n"), ["yes", "yes", "none"])
        self.assertEqual(answers("net"), ["none"])
        self.assertEqual(answers("net\nnet\n\nnet\n"), ["none", "none", "none"])

    def test_remarks_and_blanks(self):
        self.assertEqual(answers("   at   a    0  0   # here\nat b 1 0#there\n  pair#\npair # net # tree"),
                         ["yes", "yes", "a b", "a b"])
        self.assertEqual(answers("at a 0 # 0\nat # a 0 0\nnet#work"), ["no row", "no row", "none"])

    def test_rows_that_are_none(self):
        for row in [
            "at", "at a", "at a 1", "at a 1 2 3", "off", "off a b", "hold", "hold a", "hold a b c", "loose", "loose a",
            "loose a b c", "net a", "net 1", "judge", "judge a", "judge a b", "judge a b c d", "judge a b c,",
            "judge ,", "judge , a b c", "judge a b c, a b", "judge a b c,, a b d", "judge a, b c", "judge a b, c",
            "judge,a b c", "land", "land a b", "near", "near 1", "near 1 2 3", "near a 1", "walk", "walk a", "walk a 1",
            "walk a 1 2 3", "walk 1 a 2", "pair a", "pair 1", "border a", "tree a", "gap a", "gap 1 2", "x", "a",
            "none", "yes", "no row", "put a 1 2", "nets", "ne t", "neT", "Net", "NET", "At x 1 2", "AT x 1 2",
            "Judge a b c", "GAP", "near 1,2", "hold a, b", "hold a,b", "land a,", "land 'a'", "~", "!", "near 1 2,",
            "at x 1, 2", ";", "judge a b c; a b d", "near 1/0 1", "near 1 1/00", "walk a 1 x", "near - 1", "near +1 1",
            "near 1.5 1", "near 1 2/", "near /2 1",
        ]:
            self.assert_last(SQUARE + row, "no row")

    def test_a_row_that_is_none_goes_ahead_of_names_that_none_has(self):
        for row in ["walk z x 1", "land z z", "hold z", "judge z z z,", "off z z", "walk z 1/0 1", "judge z z"]:
            self.assert_last(SQUARE + row, "no row")

    def test_names_that_no_place_has(self):
        for row in [
            "off z", "hold z a", "hold a z", "hold z z", "loose z a", "loose a z", "loose z z", "land z", "walk z 1 1",
            "judge a b z", "judge a b c, z b c", "judge z z z", "judge a b c,a b d,b d Z", "land aa", "land a1",
        ]:
            self.assert_last(SQUARE + row, "no name")
            self.assert_last(row, "no name")

    def test_names(self):
        for name in ["a", "Z", "abcdefghijkl", "ABCDEFGHIJKL", "a1", "x123456789ab", "a00000000000"]:
            self.assert_rows("", [(f"at {name} 3 4", "yes"), ("near 0 0", name.lower()), (f"land {name}", "none")])
        for name in ["abcdefghijklm", "1", "1a", "a_b", "a-b", "a.b", "_", "-", "a,", "a/b", "'a'", "x" * 40, "@a"]:
            self.assert_last(SQUARE + f"at {name} 3 4", "no row")
            self.assert_last(SQUARE + f"land {name}", "no row")
            self.assert_last(SQUARE + f"hold a {name}", "no row")
            self.assert_last(SQUARE + f"judge a b {name}", "no row")

    def test_great_and_small_letters_of_names_are_alike(self):
        self.assert_rows("", [
            ("at Ab 0 0", "yes"), ("at aB 1 0", "no twice"), ("at AB 1 0", "no twice"), ("at C 1 0", "yes"),
            ("at d 0 1", "yes"), ("net", "ab c d"), ("hold aB c", "yes"), ("hold C AB", "yes"), ("pair", "ab d"),
            ("judge AB C D", "good"), ("walk D 1 0", "d c"), ("off AB", "yes"), ("border", "d c"),
        ])

    def test_numbers(self):
        for text, told in [
            ("-06/4", "-3/2"), ("006", "6"), ("4/2", "2"), ("-0", "0"), ("0/9", "0"), ("1/3", "1/3"),
            ("10/0100", "1/10"), (NINES, NINES), ("-" + NINES, "-" + NINES),
        ]:
            page = f"at a 0 0\nat b 1 0\nnear {text} {text}"
            self.assertEqual(answers(page), exact_answers(page))
            self.assertNotIn("no row", answers(page))
            if "/" not in told:
                self.assert_rows("", [(f"at a {text} 0", "yes"), ("gap", f"{told},0 0")])

    def test_answers_belong_to_whoever_asked(self):
        wanted = answers(SQUARE + "net")
        answers(SQUARE + "net").append("more")
        told = answers(SQUARE + "net")
        answers("at a 5 5\nnet")
        self.assertEqual(told, wanted)
        self.assertEqual(told, ["yes"] * 4 + ["a b d, a d c"])


class Changes(Case):
    def test_at(self):
        self.assert_rows("", [
            ("at a 0 0", "yes"), ("at b 4/2 -06/3", "yes"), ("near 2 -2", "b"), ("at c 1/2 0", "no row"),
            ("at c 0 -3/2", "no row"), (f"at c {NINES} -{NINES}", "yes"), (f"near {FORTY} -{FORTY}", "c"),
            (f"at d 1{NINES} 0", "no row"), ("at d x 0", "no row"), ("at d 0 1/0", "no row"), ("land d", "no name"),
        ])

    def test_twice_by_name_or_by_place(self):
        self.assert_rows(SQUARE, [
            ("at a 5 5", "no twice"), ("at e 1 1", "no twice"), ("at a 0 0", "no twice"), ("at e 2/2 01", "no twice"),
            ("border", "a b d c"), ("land e", "no name"),
        ])

    def test_a_name_comes_again_when_its_place_is_gone(self):
        self.assert_rows(SQUARE, [
            ("off a", "yes"), ("off a", "no name"), ("at e 0 0", "yes"), ("at a 5 5", "yes"), ("border", "e b a c"),
        ])

    def test_the_seventeenth_place(self):
        head = page_of(GRID_SIXTEEN)
        self.assert_rows(head, [
            ("at q 9 9", "no room"), ("at p3 9 9", "no twice"), ("at q 1 1", "no twice"), ("near 9 9", "p15"),
            ("hold p0 p1", "yes"), ("at q 9 9", "no room"), ("off p15", "yes"), ("at q 9 9", "yes"), ("near 8 8", "q"),
            ("at r 8 8", "no room"),
        ])

    def test_no_room_goes_ahead_of_no_held(self):
        places = scattered(3, 14, 9)
        places = [p for p in places if p[1] != 99] + [(0, 99), (2, 99)]
        self.assert_rows(page_of(places), [
            ("hold p14 p15", "yes"), ("at q 1 99", "no room"), ("off p0", "yes"), ("at q 1 99", "no held"),
            ("at q 3 99", "yes"),
        ])

    def test_a_place_between_the_ends_of_a_held_side(self):
        self.assert_rows("at a 0 0\nat b 4 2\n", [
            ("hold a b", "yes"), ("at c 2 1", "no held"), ("land c", "no name"), ("at c 6 3", "yes"),
            ("at d -2 -1", "yes"), ("at e 1 1", "yes"), ("loose b a", "yes"), ("at f 2 1", "yes"),
            ("hold a b", "no held"), ("at a 2 1", "no twice"),
        ])

    def test_twice_goes_ahead_of_held(self):
        self.assert_rows("at a 0 0\nat b 4 2\nhold a b\n", [("at a 2 1", "no twice"), ("at c 2 1", "no held")])

    def test_off(self):
        self.assert_rows(CENTRED, [
            ("off m", "yes"), ("net", "a b c, a c d"), ("off M", "no name"), ("off a", "yes"), ("net", "d b c"),
            ("off b", "yes"), ("net", "none"), ("off c", "yes"), ("off d", "yes"), ("border", "none"),
            ("off d", "no name"),
        ])

    def test_held_sides_go_with_their_place_alone(self):
        self.assert_rows(SQUARE, [
            ("hold b c", "yes"), ("hold a b", "yes"), ("off a", "yes"), ("at a 0 0", "yes"), ("hold a d", "no held"),
            ("net", "a b c, c b d"), ("off c", "yes"), ("at c 0 1", "yes"), ("net", "a b d, a d c"),
            ("hold a d", "yes"),
        ])

    def test_hold(self):
        self.assert_rows(SQUARE, [
            ("hold b c", "yes"), ("net", "a b c, c b d"), ("hold c b", "yes"), ("hold b c", "yes"),
            ("hold a d", "no held"), ("hold a a", "no held"), ("hold d d", "no held"), ("net", "a b c, c b d"),
            ("hold a b", "yes"), ("loose a d", "yes"), ("loose a a", "yes"), ("net", "a b c, c b d"),
            ("loose c b", "yes"), ("net", "a b d, a d c"), ("hold a d", "yes"), ("hold b c", "no held"),
            ("loose d a", "yes"), ("loose d a", "yes"), ("hold b c", "yes"),
        ])

    def test_hold_through_a_place(self):
        self.assert_rows(CENTRED, [("hold a c", "no held"), ("hold a m", "yes"), ("hold m c", "yes"), ("off m", "yes"),
                                   ("hold a c", "yes"), ("at m 2 2", "no held"), ("hold b d", "no held")])

    def test_loosed_while_others_stay(self):
        self.assert_rows(SQUARE, [("hold a b", "yes"), ("hold b c", "yes"), ("hold b d", "yes"), ("loose b a", "yes"),
                                  ("net", "a b c, c b d"), ("hold a d", "no held")])

    def test_what_is_answered_with_a_no_changes_nothing(self):
        ask = ["net", "land a", "near 1/2 1/3", "walk d 0 0", "pair", "border", "tree", "gap", "judge a b d, a d c"]
        wanted = answers(SQUARE + "hold b c\n" + "\n".join(ask))[5:]
        for row in [
            "at a 7 7", "at e 0 0", "at e 1/2 1", "hold a d", "hold a a", "hold a z", "off z", "off", "loose b",
            "at e 9",
            "loose b z", "judge a b z", "AT e 9 9", "Off a", "off a b",
        ]:
            told = answers(SQUARE + "hold b c\n" + row + "\n" + "\n".join(ask))
            self.assertTrue(told[5].startswith("no "), row)
            self.assertEqual(told[6:], wanted, row)


class Questions(Case):
    def test_where_there_is_nothing_to_tell(self):
        for row in ["net", "near 1 1", "pair", "border", "tree", "gap"]:
            self.assert_last(row, "none")
        for row, wanted in [
            ("net", "none"), ("near 1 1", "a"), ("pair", "none"), ("border", "a"), ("tree", "none"), ("gap", "3,4 0"),
            ("land a", "none"), ("walk a 9 9", "a"),
        ]:
            self.assert_last("at a 3 4\n" + row, wanted)

    def test_of_two_places_and_of_a_line(self):
        for row, wanted in [
            ("net", "none"), ("pair", "b a"), ("border", "b a"), ("tree", "b a"), ("gap", "1/2,3/2 17/2"),
            ("land a", "b - -"),
        ]:
            self.assert_last("at a 2 4\nat b -1 -1\n" + row, wanted)
        line = "at a 2 0\nat b 0 0\nat c 1 0\n"
        for row, wanted in [
            ("net", "none"), ("border", "b c a c"), ("tree", "b c, c a"), ("land c", "b - -; a - -"),
            ("gap", "1/2,0 1/4"),
            ("walk a -5 1", "a c b"), ("judge a b c", "flat a b c"),
        ]:
            self.assert_last(line + row, wanted)

    def test_net(self):
        self.assert_last(SQUARE + "net", "a b d, a d c")
        self.assert_last(CENTRED + "net", "a m d, a b m, d m c, m b c")
        self.assert_last(SQUARE + "hold b c\nnet", "a b c, c b d")

    def test_judge(self):
        for row, wanted in [
            ("judge a b d, a d c", "good"), ("judge a d c,a b d", "good"), ("judge   a b d   ,a   d c", "good"),
            ("judge A B D,   A D C", "good"), ("judge a b d", "bare c a"), ("judge a b c", "bare b c"),
            ("judge a b c, c b d", "spoilt a b c d"), ("judge c b d,a b c", "spoilt c b d a"),
            ("judge b d a", "flat b d a"), ("judge a d b", "flat a d b"), ("judge a a b", "flat a a b"),
            ("judge a b d, a b c", "double a b"), ("judge a b d, a d c, b a d", "flat b a d"),
            ("judge a b d,a d c,a d c", "double a d"),
        ]:
            self.assert_last(SQUARE + row, wanted)

    def test_judged_lonely(self):
        self.assert_last(CENTRED + "judge a b c, a c d", "lonely m")
        self.assert_last("at a 0 0\nat b 9 0\nat c 0 9\nat y 1 2\nat x 1 1\njudge a b c", "lonely x")

    def test_sixty_triples_and_sixty_one(self):
        three = ",".join(["a b d"] * 60)
        self.assert_last(SQUARE + "judge " + three, "double a b")
        self.assert_last(SQUARE + "judge " + three + ",a b d", "no row")
        self.assert_last(SQUARE + "judge " + three + ",a b z", "no row")
        self.assert_last(SQUARE + "judge " + three[:-1] + "z", "no name")

    def test_land(self):
        self.assert_last(SQUARE + "land a", "b - 1/2,1/2; c 1/2,1/2 -")
        self.assert_last(CENTRED + "land m", "a 0,2 2,0; b 2,0 4,2; c 4,2 2,4; d 2,4 0,2")

    def test_near_and_walk(self):
        self.assert_last(SQUARE + "near 1/2 1/2", "a c b d")
        self.assert_last(SQUARE + "near 1/2 1/3", "a b")
        self.assert_last(SQUARE + "near 2/3 2/3", "d")
        self.assert_last(SQUARE + "walk d 1/2 1/2", "d a")
        self.assert_last(SQUARE + "walk c 7 -7", "c a b")
        self.assert_last(CENTRED + "walk a 9 9", "a m c")

    def test_pair_border_tree_and_gap(self):
        for row, wanted in [
            ("pair", "a c"), ("border", "a b d c"), ("tree", "a c, a b, c d"), ("gap", "1/2,1/2 1/2"),
        ]:
            self.assert_last(SQUARE + row, wanted)
        for row, wanted in [
            ("pair", "a m"), ("border", "a b c d"), ("tree", "a m, d m, m b, m c"), ("gap", "0,2 4"),
        ]:
            self.assert_last(CENTRED + row, wanted)
        self.assert_last("at u 10 0\nat v 5 1\nat w 0 0\ngap", "13/5,0 169/25")

    def test_all_but_the_net_is_answered_as_if_no_side_were_held(self):
        places = "at a -9 0\nat b 9 0\nat c 0 1\nat d 0 -1\n"
        ask = ["land a", "land c", "near 1 0", "walk a 1 1", "pair", "border", "tree", "gap", "judge a d c, d b c"]
        rows = places + "{}" + "\n".join(ask)
        told = answers(rows.format("hold a b\n"))
        self.assertEqual(told[5:], answers(rows.format(""))[4:])
        self.assertEqual(told[-1], "good")
        self.assert_last(places + "hold a b\nnet", "a d b, a b c")

    def test_sixteen_places_of_forty_figures(self):
        for places in GREAT_SIXTEEN + [FULL_RING, scattered(5, 16, 7)]:
            ask = ["net", "pair", "border", "tree", "near 1/3 1/7", "walk p7 0 0", f"walk p0 {NINES} -{NINES}"]
            ask += [f"land p{k}" for k in (0, 5, 9, 15)]
            page = page_of(places) + "\n".join(ask[1:])
            self.assertEqual(answers(page), exact_answers(page))

    def test_as_reckoned_anew(self):
        for seed in range(120):
            page = some_page(random.Random(seed))
            self.assertEqual(answers(page), exact_answers(page), seed)


def some_number(rng):
    if rng.random() < 0.8:
        return str(rng.randrange(5))
    return rng.choice(["4/2", "1/2", "7/3", "-1", "007", "-0", "1/0", "x", "1/2/3", "00/5", "-06/4", "+1", "5/10"])


def some_name(rng):
    if rng.random() < 0.97:
        return rng.choice(["a", "B", "c", "D", "e", "f1"])
    return rng.choice(["zz", "1a", "abcdefghijklm", "a_b", "ABCDEFGHIJKL"])


def some_row(rng):
    word = rng.choice("at at at at at off hold hold loose net net land near walk pair border tree gap judge x".split())
    if word == "judge":
        threes = [" ".join(some_name(rng) for k in range(3)) for j in range(rng.randrange(1, 4))]
        return "judge " + rng.choice([",", ", ", " , "]).join(threes)
    words = {"off": "n", "hold": "nn", "loose": "nn", "land": "n", "near": "11", "walk": "n11", "at": "n11"}
    more = [some_name(rng) if one == "n" else some_number(rng) for one in words.get(word, "")]
    return " ".join([word] + more)


def some_page(rng):
    """Rows as they fall, most of them rows that can be answered."""
    rows = [f"at {name} {rng.randrange(5)} {rng.randrange(5)}" for name in "abcde"]
    for k in range(40):
        row = some_row(rng)
        if rng.random() < 0.1:
            row = "  " + row.replace(" ", "   ") + rng.choice([" ", "#", " # at q 1 1", " x"])
        rows.append(row)
    return "\n".join(rows)


if __name__ == "__main__":
    unittest.main()
