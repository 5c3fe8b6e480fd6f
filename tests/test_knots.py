"""Knots: their spots, and how far they are from one another."""

import unittest

from plain import Plain, some_webs
from samples import Odd, anything, cries, rounds

from crywalks.errors import NoSuch
from crywalks.knots import Knots
from crywalks.webs import LONGEST, Web


def plain_lengths(web, source):
    """How many steps it is from a spot to each other one, step by step."""
    near = Plain(web).near
    lengths = {source: 0}
    row = [source]
    for spot in row:
        for one in near[spot]:
            if one not in lengths:
                lengths[one] = lengths[spot] + 1
                row.append(one)
    return lengths


class Spots(unittest.TestCase):
    def test_told_order(self):
        self.assertEqual(Knots(cries()).spots(), [
            "bob", "ann", "eve", "dan", "cyd", "fay", ("road", 1), ("road", 2), ("road", 4),
            ("way", 1), ("way", LONGEST - 1), ("lane", 2)])
        self.assertEqual(Knots(rounds()).spots(), ["x", "y", "z", "w"])
        self.assertEqual(Knots(web=Web([("a", 1)])).spots(), ["a"])

    def test_own_list(self):
        knots = Knots(cries())
        due = knots.spots()
        self.assertIsNot(knots.spots(), due)
        knots.spots().clear()
        knots.spots().append("gus")
        self.assertEqual(knots.spots(), due)
        with self.assertRaises(NoSuch):
            knots.least("gus", "bob")


class Least(unittest.TestCase):
    def test_to_itself(self):
        knots = Knots(cries())
        for spot in knots.spots():
            self.assertEqual(knots.least(spot, spot), 0)

    def test_along_one_tie(self):
        knots = Knots(Web([("a", 0), ("b", 0)], [("t", "a", "b", LONGEST, ((3, 1), (9, 2)))]))
        self.assertEqual(knots.least("a", "b"), LONGEST)
        self.assertEqual(knots.least("b", "a"), LONGEST)
        self.assertEqual(knots.least("a", ("t", 9)), 9)
        self.assertEqual(knots.least(("t", 9), ("t", 3)), 6)
        self.assertEqual(knots.least(one=("t", 3), other="b"), LONGEST - 3)

    def test_over_several_ties(self):
        web = Web([("a", 0), ("b", 0), ("c", 0)],
                  [("ab", "a", "b", 10, ((9, 1),)), ("cb", "c", "b", 4, ()), ("ac", "a", "c", 5, ()), ("ba", "b", "a", 20, ())])
        knots = Knots(web)
        self.assertEqual(knots.least("a", "b"), 9)
        self.assertEqual(knots.least("a", ("ab", 9)), 9)
        self.assertEqual(knots.least(("ab", 9), "c"), 5)

    def test_none_between_parts(self):
        knots = Knots(cries())
        self.assertIsNone(knots.least("ann", "dan"))
        self.assertIsNone(knots.least("dan", ("road", 2)))
        self.assertIsNone(knots.least(("way", 1), ("lane", 2)))
        self.assertIsNone(Knots(rounds()).least("w", "x"))

    def test_step_by_step(self):
        for web in some_webs(103, 80):
            knots = Knots(web)
            for one in knots.spots():
                lengths = plain_lengths(web, one)
                for other in knots.spots():
                    self.assertEqual(knots.least(one, other), lengths.get(other))


class NoKnots(unittest.TestCase):
    def test_spots_that_are_none_of_them(self):
        knots = Knots(cries())
        for thing in (("road", 3), ("path", 1), ("way", 2), ("lane", 1), ("road", 0), ("road", 5), ("road", True), "road"):
            self.assert_none(knots, thing)

    def test_anything(self):
        for web in (cries(), rounds()):
            for thing in anything() + ["gus", Odd()]:
                self.assert_none(Knots(web), thing)

    def assert_none(self, knots, thing):
        right = knots.spots()[0]
        for one, other in ((thing, right), (right, thing), (thing, thing), (thing, Odd())):
            with self.assertRaises(NoSuch) as caught:
                knots.least(one, other)
            self.assertIs(caught.exception.who, thing)


if __name__ == "__main__":
    unittest.main()
