"""The names of the interface are there, with its arguments as they stand."""

import inspect
import unittest

from nearland import (
    covers, crossings, gaps, halving, keeping, landback, landpoints, lands, measures, numbers, outlines, pages, pairs,
    putting, rings, ringways, sweeps, taking, texts, trees, turning, turns, walks,
)

ARGUMENTS = [
    (numbers.is_whole, ["thing"]),
    (numbers.fraction, ["top", "bottom"]),
    (numbers.less, ["one", "other"]),
    (numbers.point_of, ["p"]),
    (turns.twice, ["a", "b", "c"]),
    (turns.turn, ["a", "b", "c"]),
    (turns.side_of, ["a", "b", "X"]),
    (turns.between, ["a", "b", "c"]),
    (rings.middle, ["a", "b", "c"]),
    (rings.ring, ["a", "b", "c", "d"]),
    (rings.spoils, ["a", "b", "c", "d"]),
    (rings.square, ["p", "X"]),
    (rings.nearer, ["X", "p", "q"]),
    (outlines.outline, ["places"]),
    (covers.sides_of, ["cover"]),
    (covers.ties, ["places", "cover"]),
    (covers.area, ["cover"]),
    (covers.at, ["cover", "X"]),
    (covers.fault, ["places", "triples"]),
    (sweeps.swept, ["places"]),
    (measures.measure, ["places", "cover"]),
    (measures.sharpest, ["cover"]),
    (turning.wrong, ["cover"]),
    (turning.turned_over, ["cover", "side"]),
    (turning.turnings, ["cover"]),
    (turning.by_turning, ["places"]),
    (ringways.by_rings, ["places"]),
    (putting.put_in, ["places", "net", "p"]),
    (putting.by_putting, ["places"]),
    (halving.halves, ["places"]),
    (halving.by_halving, ["places"]),
    (taking.taken_out, ["places", "net", "p"]),
    (crossings.meets, ["one", "other"]),
    (crossings.shut, ["kept", "X", "d"]),
    (keeping.kept_fault, ["places", "kept"]),
    (keeping.kept_net, ["places", "kept"]),
    (lands.heading, ["p", "q"]),
    (lands.land, ["places", "net", "p"]),
    (lands.lands, ["places", "net"]),
    (landpoints.in_land, ["p", "land", "X"]),
    (landback.net_of, ["some"]),
    (walks.nearest, ["places", "X"]),
    (walks.walk, ["places", "net", "start", "X"]),
    (pairs.pair, ["places"]),
    (trees.tree, ["places"]),
    (trees.halfway, ["a", "b"]),
    (trees.way, ["sides", "a", "b"]),
    (gaps.in_outline, ["places", "X"]),
    (gaps.gap, ["places"]),
    (texts.read_number, ["text"]),
    (texts.show_number, ["one"]),
    (texts.show_point, ["X"]),
    (pages.answers, ["page"]),
]


class Arguments(unittest.TestCase):
    def test_arguments_are_called_as_the_interface_says(self):
        for function, names in ARGUMENTS:
            with self.subTest(function=function.__name__):
                self.assertEqual(list(inspect.signature(function).parameters), names)


if __name__ == "__main__":
    unittest.main()
