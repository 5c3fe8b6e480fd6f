"""[15], and of [4] what it says of the end: how often altogether, and when last."""

import unittest

from parts_plain import beats_enough, cries_till, ending_rings, spots_of, trees
from plain import some_webs
from samples import Odd, anything, cries, rounds
from test_sums import about, rows_of

from crywalks.counts import count_behind, cry_of
from crywalks.ends import altogether, does_end, last_beat
from crywalks.errors import Endless, NoSuch
from crywalks.webs import LONGEST, Web
from crywalks.webtexts import web_text

FAR = 10 ** 59 + 7


def line(one, other, length, *told):
    return Web([("a", one), ("b", other)], [("t", "a", "b", length, told)])


class BeatByBeat(unittest.TestCase):
    def test_all_spots(self):
        seen = 0
        for web in trees(151, 40) + ending_rings(151, 20) + some_webs(151, 60):
            due = cries_till(web, beats_enough(web))
            for part in web.parts():
                if not does_end(web, part[0]):
                    continue
                for spot in spots_of(web, part):
                    with self.subTest(web=web, spot=spot):
                        self.assertEqual(altogether(web, spot), len(due[spot]))
                        self.assertEqual(last_beat(web, spot), due[spot][-1] if due[spot] else 0)
                        seen += 1
        self.assertGreater(seen, 1000)

    def test_rounds(self):
        seen = 0
        for web in some_webs(152, 120):
            if web.rounds():
                due = cries_till(web, beats_enough(web))
                for person in web.persons():
                    if does_end(web, person):
                        seen += 1
                        self.assertEqual(altogether(web, person), len(due[person]))
                        self.assertEqual(last_beat(web, person), due[person][-1] if due[person] else 0)
        self.assertGreater(seen, 20)


class ByHand(unittest.TestCase):
    def test_one_alone(self):
        for state in (0, 1, 2):
            for rounded in (False, True):
                web = Web([("a", state)], rounds=rounded)
                self.assertEqual((altogether(web, "a"), last_beat(web, "a")), (0, 0))

    def test_long_tie(self):
        web = line(1, 0, LONGEST)
        self.assertEqual((altogether(web, "a"), last_beat(web, "a")), (0, 0))
        self.assertEqual((altogether(web, "b"), last_beat(web, "b")), (1, LONGEST))
        for place in (1, 2, 10 ** 20, LONGEST // 2, LONGEST - 1):
            self.assertEqual((altogether(web, ("t", place)), last_beat(web, ("t", place))), (1, place))
        for place in (1, 2, LONGEST // 2, LONGEST // 2 + 1, LONGEST - 1):
            both = line(1, 1, LONGEST)
            self.assertEqual((altogether(both, ("t", place)), last_beat(both, ("t", place))),
                             (1, min(place, LONGEST - place)))

    def test_a_top_that_only_hearers_have(self):
        low = 10 ** 29
        web = line(0, 0, LONGEST, (low, 2), (low + 1, 1), (LONGEST - 5, 1), (LONGEST - 4, 1))
        # From the one to place low + 1 all stand at 0 and 1, behind that at 0, at the two criers at 1, then at 0.
        self.assertEqual((altogether(web, "a"), last_beat(web, "a")), (0, 0))
        web = line(0, 0, LONGEST, (low, 1), (low + 1, 1))
        self.assertEqual((altogether(web, "a"), last_beat(web, "a")), (1, low))
        self.assertEqual((altogether(web, "b"), last_beat(web, "b")), (1, LONGEST - low - 1))
        for place in (low, low + 1):
            self.assertEqual((altogether(web, ("t", place)), last_beat(web, ("t", place))), (0, 0))
        for place in (1, low - 1, low + 2, LONGEST - 1):
            self.assertEqual((altogether(web, ("t", place)), last_beat(web, ("t", place))),
                             (1, min(abs(place - low), abs(place - low - 1))))

    def test_still_ones_at_the_top(self):
        # Behind a hoarse one at the top all still ones up to the next crier stand as high.
        web = line(2, 0, LONGEST, (7, 2), (8, 1))
        for spot, many, beat in (("a", 0, 0), (("t", 1), 0, 0), (("t", 6), 0, 0), (("t", 7), 0, 0), (("t", 8), 0, 0)):
            self.assertEqual((altogether(web, spot), last_beat(web, spot)), (many, beat))
        self.assertEqual((altogether(web, "b"), last_beat(web, "b")), (1, LONGEST - 8))

    def test_twelve_cries_one_behind_another(self):
        told = tuple((place, 1 + place % 2) for place in range(LONGEST - 13, LONGEST - 1))
        web = line(0, 0, LONGEST, *told)
        self.assertEqual(does_end(web, "a"), True)
        for spot in ("a", "b", ("t", 1), ("t", LONGEST // 2), ("t", LONGEST - 13), ("t", LONGEST - 7), ("t", LONGEST - 1)):
            many, beat = altogether(web, spot), last_beat(web, spot)
            self.assertEqual(count_behind(web, spot, FAR), many)
            self.assertIsNone(cry_of(web, spot, nth=many + 1))
            self.assertEqual(beat, cry_of(web, spot, nth=many) if many else 0)

    def test_chain_of_rounds(self):
        web = Web([(name, state) for name, state in zip("abcde", (0, 1, 2, 0, 2))],
                  [(one + other, one, other, 1, ()) for one, other in zip("abcd", "bcde")], rounds=True)
        self.assertEqual([altogether(web, who) for who in "abcde"], [3, 2, 1, 0, 1])
        self.assertEqual([last_beat(web, who) for who in "abcde"], [3, 2, 1, 0, 1])


class Refused(unittest.TestCase):
    def ring(self, rounded):
        if rounded:
            return Web([("v", 0), ("y", 1), ("x", 0), ("z", 2)],
                       [("xy", "x", "y", 1, ()), ("yz", "y", "z", 1, ()), ("zx", "z", "x", 1, ())], rounds=True)
        return Web([("v", 0), ("y", 0), ("x", 0)], [("s", "x", "y", 9, ((3, 1), (4, 2))), ("t", "y", "x", LONGEST, ())])

    def test_endless(self):
        for rounded in (False, True):
            web = self.ring(rounded)
            spots = ["x", "y"] + ([] if rounded else [("s", 1), ("s", 3), ("t", 10 ** 20)])
            for spot in spots:
                for ask in (altogether, last_beat):
                    with self.assertRaises(Endless) as caught:
                        ask(web, spot)
                    self.assertEqual(caught.exception.who, "y")
            self.assertEqual((altogether(web, "v"), last_beat(web, "v")), (0, 0))

    def test_no_such_ahead_of_endless(self):
        for web in (cries(), rounds(), self.ring(False)):
            for thing in anything() + ["gus", ("road", 0), ("road", 5), ("road", True), ("s", 0), ("s", 9), ("s", True), Odd()]:
                for ask in (altogether, last_beat):
                    with self.assertRaises(NoSuch) as caught:
                        ask(web, thing)
                    self.assertIs(caught.exception.who, thing)


class NoBearing(unittest.TestCase):
    def test_order_ends_and_names(self):
        for web in trees(153, 25):
            persons, ties = rows_of(web)
            names = {name: "z" * (8 - at) for at, name in enumerate(web.persons())}
            other = Web([(names[name], state) for name, state in persons[::-1]],
                        [("no" + row[0], names[row[1]], names[row[2]], *row[3:]) for row in map(about, ties[::-1])])
            for person in web.persons():
                self.assertEqual(altogether(web, person), altogether(other, names[person]))
                self.assertEqual(last_beat(web, person), last_beat(other, names[person]))
            for tie in web.ties():
                for place in range(1, web.length(tie)):
                    there = ("no" + tie, web.length(tie) - place)
                    self.assertEqual(altogether(web, (tie, place)), altogether(other, there))
                    self.assertEqual(last_beat(web, (tie, place)), last_beat(other, there))


class Asked(unittest.TestCase):
    def test_by_name(self):
        web = line(1, 0, 9)
        self.assertEqual((altogether(spot="b", web=web), last_beat(spot="b", web=web)), (1, 9))

    def test_the_web_stays(self):
        web = cries()
        text = web_text(web)
        self.assertEqual([type(ask(web, ("way", 5))) for ask in (altogether, last_beat)], [int, int])
        self.assertEqual(web_text(web), text)
        self.assertEqual(web, cries())


if __name__ == "__main__":
    unittest.main()
