"""[2]: names, whole numbers; what is handed in and what is told."""

import copy
import unittest

from samples import CRIES_PERSONS, CRIES_TIES, Odd, anything, cries, rounds

from crywalks.errors import NoSuch, NoWeb
from crywalks.webs import LONGEST, MOST_HEARERS, MOST_PERSONS, MOST_TIES, Web, is_count, is_name
from crywalks.webtexts import read_web, web_text


class Names(unittest.TestCase):
    def test_names(self):
        for thing in ("a", "z", "ann", "abcdefgh", "zzzzzzzz", "person", "cries"):
            with self.subTest(thing=thing):
                self.assertIs(is_name(thing), True)

    def test_no_names(self):
        for thing in ("", "abcdefghi", "A", "aB", "a1", "1", "a_b", "a-b", " a", "a ", "a b", "a\n", "\n",
                      "`", "{", "@", "[", "~", b"ann", ["a"], ("a",), {"a": 1}, None, 0, 1):
            with self.subTest(thing=thing):
                self.assertIs(is_name(thing), False)

    def test_of_anything(self):
        for thing in anything():
            self.assertIs(is_name(thing), False)


class Counts(unittest.TestCase):
    def test_counts(self):
        for thing in (0, 1, 2, 12, 10 ** 30, 10 ** 59):
            with self.subTest(thing=thing):
                self.assertIs(is_count(thing), True)

    def test_no_counts(self):
        for thing in (True, False, -1, -(10 ** 59), None, "", "0", "1", b"1", [], [0], (), (0,), {}, {0: 0},
                      set(), {1}, object(), int, Odd()):
            self.assertIs(is_count(thing), False)

    def test_of_anything(self):
        for thing in anything():
            due = isinstance(thing, int) and not isinstance(thing, bool) and thing >= 0
            self.assertIs(is_count(thing), due)

    def test_constants(self):
        told = (MOST_HEARERS, MOST_PERSONS, MOST_TIES, LONGEST)
        self.assertEqual(told, (12, 8, 12, 1000000000000000000000000000000))
        self.assertEqual([type(worth) for worth in told], [int] * 4)


class HandedIn(unittest.TestCase):
    def test_not_changed(self):
        persons, ties = copy.deepcopy(CRIES_PERSONS), copy.deepcopy(CRIES_TIES)
        Web(persons, ties)
        self.assertEqual((persons, ties), (CRIES_PERSONS, CRIES_TIES))

    def test_not_changed_where_refused(self):
        persons, ties = [("ann", 0), ("bob", 0)], [("t", "ann", "bob", 1, ())]
        with self.assertRaises(NoWeb):
            Web(persons, ties)
        self.assertEqual((persons, ties), ([("ann", 0), ("bob", 0)], [("t", "ann", "bob", 1, ())]))

    def test_changed_afterwards(self):
        persons, ties = list(CRIES_PERSONS), list(CRIES_TIES)
        web = Web(persons, ties)
        persons.reverse()
        persons.append(("gus", 0))
        ties.clear()
        self.assertEqual(web, cries())
        self.assertEqual(repr(web), repr(cries()))
        self.assertEqual(web_text(web), web_text(cries()))
        self.assertEqual((web.persons(), web.ties()), (cries().persons(), cries().ties()))
        self.assertEqual((len(web), web.parts(), web.beside("ann")), (6, cries().parts(), ["road", "path"]))


class Told(unittest.TestCase):
    def test_lists_are_the_askers_own(self):
        for web in (cries(), rounds()):
            first = web.persons()[0]
            for ask in (web.persons, web.ties, web.parts, lambda: web.beside(first), lambda: web.part(first)):
                before = ask()
                ask().clear()
                ask().append("more")
                self.assertEqual(ask(), before)
                self.assertIsNot(ask(), ask())

    def test_lists_within_them(self):
        web = cries()
        before = web.parts()
        told = web.parts()
        told[0].append("more")
        told[1].clear()
        self.assertEqual(web.parts(), before)
        self.assertEqual(web.part("bob"), before[0])
        again = web.parts()
        lists = [again] + again
        self.assertEqual(len({id(one) for one in lists}), len(lists))

    def test_nothing_told_changes_the_web(self):
        web = cries()
        for told in (web.persons(), web.ties(), web.parts(), web.beside("bob"), web.part("bob"), *web.parts()):
            told.clear()
        self.assertEqual(web, cries())
        self.assertEqual(web_text(web), web_text(cries()))


class Arguments(unittest.TestCase):
    def test_by_name(self):
        web = Web(persons=CRIES_PERSONS, ties=CRIES_TIES, rounds=False)
        self.assertEqual(web, cries())
        self.assertEqual(Web(ties=[], persons=[("a", 0)]), Web([("a", 0)]))
        self.assertIs(is_name(thing="ann"), True)
        self.assertIs(is_count(thing=3), True)
        self.assertIs(web.has_person(thing="ann"), True)
        self.assertIs(web.has_tie(thing="road"), True)
        self.assertIs(web.has_spot(thing=("road", 3)), True)
        self.assertEqual(web.state(spot=("road", 2)), 2)
        self.assertEqual(web.ends(tie="road"), ("ann", "bob"))
        self.assertEqual(web.length(tie="road"), 5)
        self.assertEqual(web.hearers(tie="lane"), ((2, 2),))
        self.assertEqual(web.beside(person="ann"), ["road", "path"])
        self.assertEqual(web.part(person="ann"), ["bob", "ann", "fay"])
        self.assertEqual(read_web(text=web_text(web=web)), web)

    def test_by_place(self):
        self.assertEqual(Web(CRIES_PERSONS, CRIES_TIES), cries())
        self.assertEqual(read_web(web_text(cries())), cries())

    def test_rounds_by_name_alone(self):
        with self.assertRaises(TypeError):
            Web([("a", 0)], [], True)

    def test_left_out(self):
        web = Web([("a", 0)])
        self.assertEqual(web, Web([("a", 0)], [], rounds=False))
        self.assertIs(web.rounds(), False)

    def test_asked_again(self):
        web = cries()
        for ask in (web.persons, web.ties, web.parts, web.rounds):
            self.assertEqual(ask(), ask())
        for turn in range(2):
            with self.assertRaises(NoSuch) as caught:
                web.state("gus")
            self.assertEqual(caught.exception.who, "gus")


if __name__ == "__main__":
    unittest.main()
