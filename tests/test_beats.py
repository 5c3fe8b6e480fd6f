"""[9]: a beat, whom it sets, and when it is refused."""

import unittest

from plain import Plain, some_webs
from samples import cries, rounds

from crywalks.beats import beat, set_next
from crywalks.errors import Crowded
from crywalks.webs import LONGEST, Web
from crywalks.webtexts import web_text

PAIR = [("a", 0), ("b", 0)]


def states(web):
    return {person: web.state(person) for person in web.persons()}


class Cries(unittest.TestCase):
    def test_by_hand(self):
        web = Web([("a", 1), ("b", 0), ("c", 2), ("d", 0)],
                  [("s", "a", "b", 2, ()), ("t", "b", "c", 4, ((2, 1), (3, 2)))])
        then = beat(web)
        self.assertEqual(then, Web([("a", 2), ("b", 0), ("c", 0), ("d", 0)],
                                   [("s", "a", "b", 2, ((1, 1),)), ("t", "b", "c", 4, ((1, 1), (2, 2)))]))
        self.assertEqual(set_next(web), [])
        self.assertEqual(set_next(then), ["b"])
        self.assertEqual(states(beat(then)), {"a": 0, "b": 1, "c": 0, "d": 0})

    def test_person_alone(self):
        for state, then in ((0, 0), (1, 2), (2, 0)):
            self.assertEqual(beat(Web([("a", state)])), Web([("a", then)]))
            self.assertEqual(set_next(Web([("a", state)])), [])

    def test_first_and_last_place_told(self):
        for place, who in ((1, "a"), (4, "b")):
            web = Web(PAIR, [("t", "a", "b", 5, ((place, 1),))])
            self.assertEqual(set_next(web), [who])
            inner = 2 if place == 1 else 3
            self.assertEqual(beat(web).hearers("t"), tuple(sorted([(place, 2), (inner, 1)])))
            hoarse = Web(PAIR, [("t", "a", "b", 5, ((place, 2),))])
            self.assertEqual(set_next(hoarse), [])
            self.assertEqual(beat(hoarse), Web(PAIR, [("t", "a", "b", 5, ())]))

    def test_first_and_last_place_still(self):
        self.assertEqual(beat(Web([("a", 1), ("b", 0)], [("t", "a", "b", 5, ())])),
                         Web([("a", 2), ("b", 0)], [("t", "a", "b", 5, ((1, 1),))]))
        self.assertEqual(beat(Web([("a", 0), ("b", 1)], [("t", "a", "b", 5, ())])),
                         Web([("a", 0), ("b", 2)], [("t", "a", "b", 5, ((4, 1),))]))
        self.assertEqual(beat(Web([("a", 1), ("b", 1)], [("t", "a", "b", 5, ())])).hearers("t"), ((1, 1), (4, 1)))

    def test_length_two(self):
        for told, due in (((), ((1, 1),)), (((1, 1),), ((1, 2),)), (((1, 2),), ())):
            web = Web([("a", 1), ("b", 0)], [("t", "a", "b", 2, told)])
            self.assertEqual(beat(web).hearers("t"), due)
            self.assertEqual(set_next(web), ["b"] if told == ((1, 1),) else [])
        self.assertEqual(beat(Web([("a", 1), ("b", 1)], [("t", "a", "b", 2, ())])),
                         Web([("a", 2), ("b", 2)], [("t", "a", "b", 2, ((1, 1),))]))

    def test_ties_between_the_same_two(self):
        web = Web([("a", 1), ("b", 0)], [("s", "a", "b", 2, ()), ("t", "b", "a", 3, ()), ("u", "a", "b", 2, ((1, 2),))])
        then = beat(web)
        self.assertEqual([then.hearers(tie) for tie in "stu"], [((1, 1),), ((2, 1),), ()])
        self.assertEqual(set_next(then), ["b"])
        self.assertEqual([beat(then).hearers(tie) for tie in "stu"], [((1, 2),), ((1, 1), (2, 2)), ()])

    def test_longest(self):
        web = Web(PAIR, [("t", "a", "b", LONGEST, ((1, 1), (5 * 10 ** 29, 1), (LONGEST - 1, 1)))])
        middle = 5 * 10 ** 29
        self.assertEqual(set_next(web), ["a", "b"])
        self.assertEqual(beat(web), Web([("a", 1), ("b", 1)], [("t", "a", "b", LONGEST, (
            (1, 2), (2, 1), (middle - 1, 1), (middle, 2), (middle + 1, 1), (LONGEST - 2, 1), (LONGEST - 1, 2)))]))


class Rounds(unittest.TestCase):
    def test_who_beats_whom(self):
        for one in range(3):
            for other in range(3):
                web = Web([("a", one), ("b", other)], [("t", "a", "b", 1, ())], rounds=True)
                beaten = [name for name, mine, near in (("a", one, other), ("b", other, one))
                          if (mine, near) in ((0, 1), (1, 2), (2, 0))]
                then = {"a": other if "a" in beaten else one, "b": one if "b" in beaten else other}
                with self.subTest(one=one, other=other):
                    self.assertEqual(states(beat(web)), then)
                    self.assertEqual(set_next(web), beaten)
                    self.assertIs(beat(web).rounds(), True)

    def test_ring(self):
        web = rounds()
        self.assertEqual(set_next(web), ["x", "y", "z"])
        self.assertEqual(states(beat(web)), {"x": 1, "y": 2, "z": 0, "w": 0})
        self.assertEqual(beat(beat(beat(web))), web)

    def test_several_ties(self):
        web = Web([("a", 0), ("b", 1)], [("s", "a", "b", 1, ()), ("t", "b", "a", 1, ())], rounds=True)
        self.assertEqual(states(beat(web)), {"a": 1, "b": 1})
        self.assertEqual(set_next(beat(web)), [])

    def test_one_beat_at_once(self):
        web = Web([("a", 0), ("b", 1), ("c", 2)], [("s", "a", "b", 1, ()), ("t", "b", "c", 1, ())], rounds=True)
        self.assertEqual(states(beat(web)), {"a": 1, "b": 2, "c": 2})


class AgainstAll(unittest.TestCase):
    def test_beats_one_by_one(self):
        for web in some_webs(91, 160):
            for _ in range(6):
                plain = Plain(web)
                moved = plain.beat()
                with self.subTest(web=web):
                    self.assertEqual(set_next(web), [person for person in web.persons() if person in moved])
                    if plain.crowd() > 12:
                        with self.assertRaises(Crowded) as caught:
                            beat(web)
                        self.assertEqual(caught.exception.most, 12)
                        break
                    then = beat(web)
                    self.assertEqual(then, plain.now())
                web = then


class CrowdedBeats(unittest.TestCase):
    def test_twelve_on_their_way(self):
        ties = [("t" + letter, "a", "b", 9, ((4, 1), (5, 2))) for letter in "cdefgh"]
        then = beat(Web(PAIR, ties))
        self.assertEqual([then.hearers(tie[0]) for tie in ties], [((3, 1), (4, 2))] * 6)
        # Without the hoarse one behind it a cry goes both ways.
        web = Web(PAIR, ties[:5] + [("u", "a", "b", 9, ((4, 1),))])
        with self.assertRaises(Crowded) as caught:
            beat(web)
        self.assertEqual(caught.exception.most, 12)

    def test_twelve_and_thirteen(self):
        # Of a person who cries comes one for each tie beside it.
        persons = [("a", 1), ("b", 0), ("c", 0)]
        ties = [("t" + letter, "a", "b", 5, ()) for letter in "abcdefghijkl"]
        self.assertEqual(sum(len(beat(Web(persons, ties)).hearers(tie[0])) for tie in ties), 12)
        for told, many in ((((5, 2),), 12), (((6, 2), (7, 1)), 14), (((8, 1),), 14), (((7, 2), (8, 1)), 13)):
            web = Web(persons, ties[:11] + [("u", "a", "c", 9, told)])
            plain = Plain(web)
            plain.beat()
            with self.subTest(told=told):
                self.assertEqual(plain.crowd(), many)
                if many == 12:
                    self.assertEqual(beat(web), plain.now())
                else:
                    with self.assertRaises(Crowded) as caught:
                        beat(web)
                    self.assertEqual(caught.exception.most, 12)

    def test_set_next_is_never_refused(self):
        web = Web([("c", 0), ("a", 1), ("b", 0)], [("t" + letter, "a", "b", 9, ()) for letter in "abcdefghijk"]
                  + [("u", "c", "b", 9, ((1, 1), (4, 1), (8, 1)))])
        with self.assertRaises(Crowded):
            beat(web)
        self.assertEqual(set_next(web), ["c", "b"])


class Values(unittest.TestCase):
    def test_the_web_stays(self):
        for make in (cries, rounds):
            web = make()
            text = web_text(web)
            beat(web)
            set_next(web)
            self.assertEqual(web, make())
            self.assertEqual(web_text(web), text)

    def test_new_list(self):
        for web in (cries(), rounds()):
            told = set_next(web)
            self.assertIsNot(set_next(web), told)
            due = list(told)
            told.append("more")
            self.assertEqual(set_next(web), due)

    def test_in_order(self):
        web = Web([("c", 0), ("a", 0), ("b", 0)], [("s", "a", "b", 2, ((1, 1),)), ("t", "b", "c", 2, ((1, 1),))])
        self.assertEqual(set_next(web), ["c", "a", "b"])

    def test_by_name(self):
        self.assertEqual(beat(web=cries()), beat(cries()))
        self.assertEqual(set_next(web=rounds()), set_next(rounds()))


if __name__ == "__main__":
    unittest.main()
