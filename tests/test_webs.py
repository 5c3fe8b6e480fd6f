"""[5] and [7]: what a web is asked, and what it tells."""

import unittest

from samples import CRIES_PERSONS, CRIES_TIES, ROUNDS_PERSONS, ROUNDS_TIES, Odd, anything, cries, rounds

from crywalks.errors import NoSuch
from crywalks.webs import LONGEST, Web


class Asked(unittest.TestCase):
    def test_rounds(self):
        self.assertIs(cries().rounds(), False)
        self.assertIs(rounds().rounds(), True)
        self.assertIs(Web([("a", 0)], rounds=True).rounds(), True)

    def test_persons_and_ties_in_order(self):
        self.assertEqual(cries().persons(), ["bob", "ann", "eve", "dan", "cyd", "fay"])
        self.assertEqual(cries().ties(), ["road", "path", "way", "lane"])
        self.assertEqual(rounds().persons(), ["x", "y", "z", "w"])
        self.assertEqual(rounds().ties(), ["xy", "yz", "zx"])
        self.assertEqual(Web([("a", 0)]).ties(), [])

    def test_has_person_and_tie(self):
        for web in (cries(), rounds()):
            for name in web.persons():
                self.assertIs(web.has_person(name), True)
                self.assertIs(web.has_tie(name), False)
            for name in web.ties():
                self.assertIs(web.has_tie(name), True)
                self.assertIs(web.has_person(name), False)
                self.assertIs(web.has_spot(name), False)
            self.assertIs(web.has_person("gus"), False)
            self.assertIs(web.has_tie("gus"), False)

    def test_states_of_persons(self):
        web = cries()
        self.assertEqual([(name, web.state(name)) for name in web.persons()], CRIES_PERSONS)
        web = rounds()
        self.assertEqual([(name, web.state(name)) for name in web.persons()], ROUNDS_PERSONS)

    def test_states_of_hearers(self):
        web = cries()
        self.assertEqual([web.state(("road", place)) for place in (1, 2, 3, 4)], [1, 2, 0, 1])
        self.assertEqual(web.state(("path", 1)), 0)
        self.assertEqual([web.state(("lane", place)) for place in (1, 2)], [0, 2])
        places = (1, 2, 10 ** 29, LONGEST - 2, LONGEST - 1)
        self.assertEqual([web.state(("way", place)) for place in places], [2, 0, 0, 0, 1])

    def test_ends_length_hearers(self):
        for web, ties in ((cries(), CRIES_TIES), (rounds(), ROUNDS_TIES)):
            for name, one, other, length, hearers in ties:
                with self.subTest(name=name):
                    self.assertEqual(web.ends(name), (one, other))
                    self.assertIs(type(web.ends(name)), tuple)
                    self.assertEqual(web.length(name), length)
                    self.assertEqual(web.hearers(name), hearers)
                    self.assertIs(type(web.hearers(name)), tuple)


class Spots(unittest.TestCase):
    def test_persons_are_spots(self):
        for web in (cries(), rounds()):
            for name in web.persons():
                self.assertIs(web.has_spot(name), True)

    def test_hearers_between_the_ends(self):
        web = cries()
        for tie, length in (("road", 5), ("path", 2), ("lane", 3), ("way", LONGEST)):
            for place in (1, length // 2, length - 1):
                with self.subTest(tie=tie, place=place):
                    self.assertIs(web.has_spot((tie, place)), True)

    def test_ends_and_beyond_are_none(self):
        web = cries()
        for tie, length in (("road", 5), ("path", 2), ("lane", 3), ("way", LONGEST)):
            for place in (0, -1, length, length + 1, -length, 10 ** 59, True, False):
                self.assert_no_spot(web, (tie, place))

    def test_true_is_no_place(self):
        web = cries()
        self.assertEqual(web.state(("road", 1)), 1)
        self.assert_no_spot(web, ("road", True))
        self.assert_no_spot(web, ("path", True))

    def test_rounds_have_no_hearers(self):
        web = rounds()
        for place in (-1, 0, 1, 2, True):
            self.assert_no_spot(web, ("xy", place))

    def test_other_kinds(self):
        web = cries()
        for thing in (("ann", 1), ("gus", 1), ("road",), ("road", 1, 1), ["road", 1], ("road", "1"), (1, "road"),
                      ("road", None), ("road", [1]), (["road"], 1), "road", "gus", ("bob",), ["bob"], {"bob": 1},
                      (("road", 1), 1), ("road", ("road", 1))):
            self.assert_no_spot(web, thing)

    def assert_no_spot(self, web, thing):
        with self.subTest(thing=thing):
            self.assertIs(web.has_spot(thing), False)
            with self.assertRaises(NoSuch) as caught:
                web.state(thing)
            self.assertIs(caught.exception.who, thing)


class Anything(unittest.TestCase):
    def test_truths(self):
        for web in (cries(), rounds()):
            for thing in anything():
                self.assertIs(web.has_person(thing), False)
                self.assertIs(web.has_tie(thing), False)
                self.assertIs(web.has_spot(thing), False)

    def test_refused_with_the_thing(self):
        for web in (cries(), rounds()):
            asks = (web.state, web.ends, web.length, web.hearers, web.beside, web.part)
            for ask in asks:
                for thing in anything() + ["gus", Odd()]:
                    with self.assertRaises(NoSuch) as caught:
                        ask(thing)
                    self.assertIs(caught.exception.who, thing)

    def test_persons_are_no_ties_and_ties_no_persons(self):
        for web in (cries(), rounds()):
            for ask in (web.ends, web.length, web.hearers):
                for name in web.persons():
                    self.assert_no_such(ask, name)
            for ask in (web.state, web.beside, web.part):
                for name in web.ties():
                    self.assert_no_such(ask, name)

    def test_hearers_are_no_persons(self):
        web = cries()
        for ask in (web.beside, web.part, web.ends):
            self.assert_no_such(ask, ("road", 1))

    def assert_no_such(self, ask, thing):
        with self.assertRaises(NoSuch) as caught:
            ask(thing)
        self.assertEqual(caught.exception.who, thing)


class BesideAndParts(unittest.TestCase):
    def test_beside_in_order(self):
        web = cries()
        told = {name: web.beside(name) for name in web.persons()}
        self.assertEqual(told, {"bob": ["road", "path", "lane"], "ann": ["road", "path"], "eve": ["way"],
                                "dan": [], "cyd": ["way"], "fay": ["lane"]})
        self.assertEqual(rounds().beside("x"), ["xy", "zx"])
        self.assertEqual(rounds().beside("w"), [])

    def test_parts_by_first_persons(self):
        self.assertEqual(cries().parts(), [["bob", "ann", "fay"], ["eve", "cyd"], ["dan"]])
        self.assertEqual(rounds().parts(), [["x", "y", "z"], ["w"]])
        self.assertEqual(Web([("a", 0)]).parts(), [["a"]])

    def test_part_is_that_among_the_parts(self):
        for web in (cries(), rounds()):
            for members in web.parts():
                for person in members:
                    with self.subTest(person=person):
                        self.assertEqual(web.part(person), members)

    def test_long_chain_either_way(self):
        names = ["h", "a", "g", "b", "f", "c", "e", "d"]
        persons = [(name, 0) for name in names]
        ahead = [("t" + a, a, b, 2, ()) for a, b in zip("abcdefg", "bcdefgh")]
        back = [("t" + a, b, a, 2, ()) for a, b in zip("abcdefg", "bcdefgh")]
        for ties in (ahead, back, ahead[::-1], ahead[::2] + back[1::2]):
            web = Web(persons, ties)
            self.assertEqual(web.parts(), [names])
            for name in names:
                self.assertEqual(web.part(name), names)
        broken = Web(persons, ahead[:3] + ahead[4:])
        self.assertEqual(broken.parts(), [["h", "g", "f", "e"], ["a", "b", "c", "d"]])

    def test_ring_and_twins(self):
        web = Web([("a", 0), ("b", 0), ("c", 0), ("d", 0)],
                  [("s", "d", "b", 2, ()), ("t", "b", "d", 2, ()), ("u", "c", "a", 2, ()), ("v", "a", "c", 9, ())])
        self.assertEqual(web.parts(), [["a", "c"], ["b", "d"]])


class Equal(unittest.TestCase):
    def test_alike(self):
        for make in (cries, rounds):
            self.assertTrue(make() == make())
            self.assertFalse(make() != make())
            web = make()
            self.assertTrue(web == web)

    def test_ties_of_nothing(self):
        self.assertEqual(Web([("a", 0)]), Web([("a", 0)], []))
        self.assertEqual(Web([("a", 0)], ()), Web([("a", 0)], []))

    def test_unlike(self):
        persons = [("a", 0), ("b", 1)]
        tie = ("t", "a", "b", 4, ((1, 1), (3, 2)))
        base = Web(persons, [tie])
        others = [
            Web(persons),
            Web([("a", 0), ("b", 2)], [tie]),
            Web([("b", 1), ("a", 0)], [tie]),
            Web(persons + [("c", 0)], [tie]),
            Web(persons, [("u", "a", "b", 4, ((1, 1), (3, 2)))]),
            Web(persons, [("t", "b", "a", 4, ((1, 1), (3, 2)))]),
            Web(persons, [("t", "b", "a", 4, ((1, 2), (3, 1)))]),
            Web(persons, [("t", "a", "b", 5, ((1, 1), (3, 2)))]),
            Web(persons, [("t", "a", "b", 4, ((1, 1), (3, 1)))]),
            Web(persons, [("t", "a", "b", 4, ((1, 1), (2, 2)))]),
            Web(persons, [("t", "a", "b", 4, ((1, 1),))]),
            Web(persons, [tie, ("u", "a", "b", 2, ())]),
        ]
        for other in others:
            with self.subTest(other=other):
                self.assertFalse(base == other)
                self.assertTrue(base != other)
                self.assertFalse(other == base)

    def test_order_of_ties(self):
        persons = [("a", 0), ("b", 1)]
        one, other = ("s", "a", "b", 2, ()), ("t", "a", "b", 2, ())
        self.assertNotEqual(Web(persons, [one, other]), Web(persons, [other, one]))

    def test_cries_and_rounds(self):
        self.assertNotEqual(Web([("a", 0)]), Web([("a", 0)], rounds=True))
        self.assertEqual(Web([("a", 0)], rounds=True), Web([("a", 0)], rounds=True))

    def test_other_things(self):
        web = cries()
        for thing in [*anything(), repr(web), (CRIES_PERSONS, CRIES_TIES), CRIES_PERSONS]:
            if isinstance(thing, Odd):
                continue
            self.assertIs(web == thing, False)
            self.assertIs(web != thing, True)
            self.assertIs(thing == web, False)


class LengthAndRepr(unittest.TestCase):
    def test_length(self):
        self.assertEqual(len(cries()), 6)
        self.assertEqual(len(rounds()), 4)
        self.assertEqual(len(Web([("a", 0)])), 1)

    def test_repr_of_cries(self):
        web = Web([("bob", 1), ("a", 0)], [("road", "a", "bob", 5, ((1, 1), (4, 2))), ("path", "bob", "a", 2, ())])
        self.assertEqual(repr(web), "Web([('bob', 1), ('a', 0)], [('road', 'a', 'bob', 5, ((1, 1), (4, 2))),"
                                    " ('path', 'bob', 'a', 2, ())])")

    def test_repr_without_ties(self):
        self.assertEqual(repr(Web([("a", 0)])), "Web([('a', 0)], [])")
        self.assertEqual(repr(Web([("a", 0)], ())), "Web([('a', 0)], [])")
        self.assertEqual(repr(Web([("a", 2)], rounds=True)), "Web([('a', 2)], [], rounds=True)")

    def test_repr_of_rounds(self):
        web = Web([("x", 0), ("y", 2)], [("t", "x", "y", 1, ())], rounds=True)
        self.assertEqual(repr(web), "Web([('x', 0), ('y', 2)], [('t', 'x', 'y', 1, ())], rounds=True)")

    def test_repr_of_one_hearer_and_the_longest(self):
        web = Web([("x", 0), ("y", 2)], [("t", "x", "y", LONGEST, ((7, 2),))])
        self.assertEqual(repr(web), "Web([('x', 0), ('y', 2)],"
                                    " [('t', 'x', 'y', 1000000000000000000000000000000, ((7, 2),))])")

    def test_repr_makes_the_web_again(self):
        for web in (cries(), rounds()):
            self.assertEqual(eval(repr(web), {"Web": Web}), web)


if __name__ == "__main__":
    unittest.main()
