"""[6]: what no web is made of, by the first of its faults."""

import unittest

from samples import Odd, anything, many_persons, many_ties

from crywalks.errors import NoWeb
from crywalks.webs import LONGEST, Web

TWO = [("a", 0), ("b", 1)]


class Refused(unittest.TestCase):
    def assert_refused(self, what, who, persons, ties=(), rounds=False):
        with self.assertRaises(NoWeb) as caught:
            Web(persons, ties, rounds=rounds)
        error = caught.exception
        self.assertEqual((error.what, error.who), (what, who))
        self.assertIs(type(error.who), str)

    def assert_tie_refused(self, what, tie, rounds=False):
        self.assert_refused(what, "t", TWO, [tie], rounds)


class Persons(Refused):
    def test_no_list(self):
        for thing in anything():
            if not isinstance(thing, list):
                self.assert_refused("persons", "", thing)
        self.assert_refused("persons", "", (("a", 0),))
        self.assert_refused("persons", "", {"a": 0})

    def test_no_tuple_of_two(self):
        for thing in (None, "ab", ["a", 0], ("a",), ("a", 0, 0), (), {"a": 0}, 7, True, Odd()):
            self.assert_refused("person", "0", [thing])
            self.assert_refused("person", "2", [("a", 0), ("b", 1), thing, thing])

    def test_no_name(self):
        for thing in anything():
            self.assert_refused("name", "0", [(thing, 0)])
            self.assert_refused("name", "1", [("a", 0), (thing, 0)])

    def test_name_edges(self):
        Web([("abcdefgh", 0)])
        self.assert_refused("name", "0", [("abcdefghi", 0)])
        self.assert_refused("name", "10", many_persons(10) + [("", 0)])

    def test_again(self):
        self.assert_refused("again", "a", [("a", 0), ("b", 0), ("a", 1)])
        self.assert_refused("again", "b", [("a", 0), ("b", 0), ("b", 0), ("a", 0)])

    def test_no_state(self):
        for thing in anything() + [3, -1, "0", (0,), [1]]:
            self.assert_refused("state", "b", [("a", 0), ("b", thing)])
        for state in (0, 1, 2):
            for rounds in (False, True):
                self.assertEqual(Web([("a", state)], rounds=rounds).state("a"), state)

    def test_many(self):
        self.assert_refused("many", "persons", [])
        self.assert_refused("many", "persons", [], rounds=True)
        self.assert_refused("many", "persons", many_persons(9))
        self.assert_refused("many", "persons", many_persons(13))
        for many in (1, 8):
            self.assertEqual(len(Web(many_persons(many))), many)


class Ties(Refused):
    def test_no_list(self):
        for thing in anything():
            if not isinstance(thing, list) and not (isinstance(thing, tuple) and len(thing) == 0):
                self.assert_refused("ties", "", TWO, thing)
        self.assert_refused("ties", "", TWO, (("t", "a", "b", 2, ()),))
        self.assertEqual(Web(TWO, ()).ties(), [])
        self.assertEqual(Web(TWO, []).ties(), [])

    def test_no_tuple_of_five(self):
        good = ("s", "a", "b", 2, ())
        for thing in (None, "stabs", ("t", "a", "b", 2), ("t", "a", "b", 2, (), ()), ["t", "a", "b", 2, ()], (), 5,
                      {}, True, Odd()):
            self.assert_refused("tie", "0", TWO, [thing])
            self.assert_refused("tie", "1", TWO, [good, thing, thing])

    def test_no_name(self):
        good = ("s", "a", "b", 2, ())
        for thing in anything():
            self.assert_refused("name", "0", TWO, [(thing, "a", "b", 2, ())])
            self.assert_refused("name", "1", TWO, [good, (thing, "a", "b", 2, ())])
        self.assert_refused("name", "12", TWO, many_ties(12) + [("T", "a", "b", 2, ())])

    def test_again(self):
        good = ("s", "a", "b", 2, ())
        self.assert_refused("again", "s", TWO, [good, ("t", "a", "b", 2, ()), good])
        self.assert_refused("again", "a", TWO, [("a", "a", "b", 2, ())])
        self.assert_refused("again", "b", TWO, [good, ("b", "a", "b", 2, ())])

    def test_no_ends(self):
        for one, other in (("a", "a"), ("b", "b"), ("a", "c"), ("c", "b"), ("c", "d"), ("c", "c"), ("t", "a"),
                           ("a", "s")):
            self.assert_refused("ends", "t", TWO, [("s", "a", "b", 2, ()), ("t", one, other, 2, ())])
        for thing in anything():
            self.assert_tie_refused("ends", ("t", thing, "b", 2, ()))
            self.assert_tie_refused("ends", ("t", "a", thing, 2, ()))
            self.assert_tie_refused("ends", ("t", thing, thing, 2, ()))
        self.assertEqual(Web(TWO, [("t", "b", "a", 2, ())]).ends("t"), ("b", "a"))

    def test_length_in_cries(self):
        for thing in (1, 0, -2, LONGEST + 1, 10 ** 31, True, False, None, "2", [2], (2,), Odd()):
            self.assert_tie_refused("length", ("t", "a", "b", thing, ()))
        for length in (2, 3, LONGEST - 1, LONGEST):
            self.assertEqual(Web(TWO, [("t", "a", "b", length, ())]).length("t"), length)

    def test_length_in_rounds(self):
        for thing in (2, 0, -1, LONGEST, True, False, None, "1", [1], (1,), Odd()):
            self.assert_tie_refused("length", ("t", "a", "b", thing, ()), rounds=True)
        web = Web(TWO, [("t", "a", "b", 1, ())], rounds=True)
        self.assertEqual((web.length("t"), type(web.length("t"))), (1, int))

    def test_hearers_of_other_kinds(self):
        for thing in anything():
            if not (isinstance(thing, tuple) and len(thing) == 0):
                self.assert_tie_refused("hearers", ("t", "a", "b", 5, thing))
                self.assert_tie_refused("hearers", ("t", "a", "b", 1, thing), rounds=True)
            self.assert_tie_refused("hearers", ("t", "a", "b", 5, (thing,)))
            self.assert_tie_refused("hearers", ("t", "a", "b", 5, ((1, 1), thing)))
        for thing in ([(1, 1)], (1, 1), ([1, 1],), ((1, 1, 1),), ((1,),), {1: 1}):
            self.assert_tie_refused("hearers", ("t", "a", "b", 5, thing))

    def test_hearers_places(self):
        for thing in (0, 5, 6, -1, True, False, None, "1", (1,), [1], Odd()):
            self.assert_tie_refused("hearers", ("t", "a", "b", 5, ((thing, 1),)))
        for places in ((1, 1), (2, 1), (1, 3, 3), (1, 3, 2), (4, 5), (0, 1), (True, 2)):
            hearers = tuple([(place, 1) for place in places])
            self.assert_tie_refused("hearers", ("t", "a", "b", 5, hearers))
        for length in (2, 5, LONGEST):
            for places in ((1,), (length - 1,)):
                hearers = tuple([(place, 2) for place in places])
                self.assertEqual(Web(TWO, [("t", "a", "b", length, hearers)]).hearers("t"), hearers)
            self.assert_tie_refused("hearers", ("t", "a", "b", length, ((length, 1),)))

    def test_hearers_states(self):
        for thing in (0, 3, -1, True, False, None, "1", (1,), [1], Odd()):
            self.assert_tie_refused("hearers", ("t", "a", "b", 5, ((1, thing),)))
            self.assert_tie_refused("hearers", ("t", "a", "b", 5, ((1, 1), (2, thing))))

    def test_hearers_in_rounds(self):
        for thing in (((1, 1),), ((0, 1),), ((1, 0),), [], None, 0, False, "", {}, ((),)):
            self.assert_tie_refused("hearers", ("t", "a", "b", 1, thing), rounds=True)

    def test_many_ties(self):
        self.assert_refused("many", "ties", TWO, many_ties(13))
        self.assert_refused("many", "ties", TWO, many_ties(13, 1), rounds=True)
        self.assertEqual(len(Web(TWO, many_ties(12)).ties()), 12)
        self.assertEqual(len(Web(TWO, many_ties(12, 1), rounds=True).ties()), 12)

    def test_many_hearers(self):
        twelve = tuple([(place, 1 + place % 2) for place in range(1, 13)])
        self.assertEqual(Web(TWO, [("t", "a", "b", 13, twelve)]).hearers("t"), twelve)
        self.assert_refused("many", "hearers", TWO, [("t", "a", "b", 14, twelve + ((13, 1),))])
        more = [("t", "a", "b", 13, twelve[:6]), ("u", "a", "b", 13, twelve[:6])]
        self.assertEqual(len(Web(TWO, more).ties()), 2)
        self.assert_refused("many", "hearers", TWO, more + [("v", "a", "b", 2, ((1, 1),))])


class FirstFault(Refused):
    def test_of_persons(self):
        self.assert_refused("persons", "", None, None)
        self.assert_refused("person", "0", ["x", ("A", 0)])
        self.assert_refused("name", "0", [("A", 9), "x"])
        self.assert_refused("again", "a", [("a", 0), ("a", 9)])
        self.assert_refused("state", "a", [("a", 9), ("a", 0)])
        self.assert_refused("state", "a", [("a", 9), "x"])
        self.assert_refused("state", "m", many_persons(12) + [("m", 3)])
        self.assert_refused("person", "9", many_persons(9) + [0])

    def test_persons_ahead_of_ties(self):
        self.assert_refused("many", "persons", [], None)
        self.assert_refused("many", "persons", many_persons(9), [0])
        self.assert_refused("state", "b", [("a", 0), ("b", 3)], None)

    def test_of_ties(self):
        self.assert_refused("tie", "0", TWO, ["x", ("T", "a", "b", 2, ())])
        self.assert_refused("name", "0", TWO, [("T", "a", "a", 0, 0), "x"])
        self.assert_refused("again", "a", TWO, [("a", "a", "a", 0, 0)])
        self.assert_refused("ends", "t", TWO, [("t", "a", "a", 0, 0)])
        self.assert_refused("length", "t", TWO, [("t", "a", "b", 0, 0)])
        self.assert_refused("hearers", "t", TWO, [("t", "a", "b", 2, 0), "x"])
        self.assert_refused("length", "t", TWO, [("t", "a", "b", 2, ((1, 1),))], rounds=True)

    def test_many_go_last(self):
        thirteen = tuple([(place, 1) for place in range(1, 14)])
        self.assert_refused("tie", "13", TWO, many_ties(13) + [0])
        self.assert_refused("hearers", "u", TWO, [("t", "a", "b", 14, thirteen), ("u", "a", "b", 2, [])])
        self.assert_refused("many", "ties", TWO, [("t", "a", "b", 14, thirteen)] + many_ties(12))


if __name__ == "__main__":
    unittest.main()
