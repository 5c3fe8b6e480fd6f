"""[11]: counts, cries and states ahead."""

import unittest

from plain import LETTERS, some_webs, told_beats
from samples import Odd, anything, cries, no_counts, rounds

from crywalks.beats import beat
from crywalks.counts import count_behind, counts_behind, cry_of, state_behind
from crywalks.errors import NoCount, NoSuch
from crywalks.webs import LONGEST, Web

FAR = 10 ** 59 + 7


def ring(length, also=0):
    """Two persons, two ways of that length between them, and a cry that goes round."""
    return Web([("a", 0), ("b", also)], [("s", "a", "b", length, ((1, 2), (2, 1))), ("t", "b", "a", length, ())])


class BeatByBeat(unittest.TestCase):
    def test_counts_and_states(self):
        for web in some_webs(111, 48):
            rows = told_beats(web, 24)
            spots = list(rows[0][0])
            for beats in (0, 1, 2, 3, 7, 24):
                counts, states, told = rows[beats]
                with self.subTest(web=web, beats=beats):
                    self.assertEqual(counts_behind(web, beats), {person: counts[person] for person in web.persons()})
                    self.assertEqual({spot: count_behind(web, spot, beats) for spot in spots}, counts)
                    self.assertEqual({spot: state_behind(web, spot, beats) for spot in spots}, states)

    def test_cries(self):
        for web in some_webs(112, 48):
            rows = told_beats(web, 20)
            for spot in rows[0][0]:
                due = [beats for beats in range(1, 21) if rows[beats][0][spot] > rows[beats - 1][0][spot]]
                told = [cry_of(web, spot, nth=nth) for nth in range(1, len(due) + 1)]
                self.assertEqual(told, due)
                more = cry_of(web, spot, nth=len(due) + 1)
                self.assertTrue(more is None or more > 20)

    def test_each_kind_of_spot(self):
        web = Web([("a", 1), ("b", 2)], [("t", "a", "b", 6, ((2, 2), (4, 1)))])
        rows = told_beats(web, 12)
        self.assertEqual([state_behind(web, ("t", 4), beats) for beats in range(13)], [row[1][("t", 4)] for row in rows])
        self.assertEqual([count_behind(web, ("t", 2), beats) for beats in range(13)], [row[0][("t", 2)] for row in rows])
        self.assertEqual([count_behind(web, ("t", 3), beats) for beats in range(13)], [row[0][("t", 3)] for row in rows])
        self.assertEqual([state_behind(web, "b", beats) for beats in range(13)], [row[1]["b"] for row in rows])


class ByHand(unittest.TestCase):
    def test_at_the_very_beat_and_one_ahead(self):
        web = Web([("a", 1), ("b", 0)], [("t", "a", "b", LONGEST, ())])
        self.assertEqual(cry_of(web, "b"), LONGEST)
        self.assertEqual([count_behind(web, "b", LONGEST + more) for more in (-1, 0, 1, 2)], [0, 1, 1, 1])
        self.assertEqual([state_behind(web, "b", LONGEST + more) for more in (-1, 0, 1, 2)], [0, 1, 2, 0])
        self.assertEqual(cry_of(web, ("t", 1)), 1)
        self.assertEqual(cry_of(web, ("t", LONGEST - 1)), LONGEST - 1)
        self.assertEqual(cry_of(web, ("t", LONGEST // 2)), LONGEST // 2)
        self.assertEqual([count_behind(web, ("t", LONGEST // 2), LONGEST // 2 + more) for more in (-1, 0)], [0, 1])

    def test_never(self):
        web = Web([("a", 1), ("b", 0), ("c", 0)], [("t", "a", "b", 5, ())])
        self.assertIsNone(cry_of(web, "a"))
        self.assertIsNone(cry_of(web, "c"))
        self.assertEqual(cry_of(web, "b"), 5)
        for nth in (2, 3, 10 ** 30, FAR):
            self.assertIsNone(cry_of(web, "b", nth=nth))
        self.assertEqual(counts_behind(web, FAR), {"a": 0, "b": 1, "c": 0})
        self.assertEqual(counts_behind(Web([("x", 1)], rounds=True), FAR), {"x": 0})

    def test_who_cries_or_is_hoarse_now(self):
        for now, due in ((0, [0, 0, 0]), (1, [1, 2, 0]), (2, [2, 0, 0])):
            web = Web([("a", now)])
            self.assertEqual([state_behind(web, "a", beats) for beats in range(3)], due)
            self.assertEqual(state_behind(web, "a", FAR), 0)
            self.assertEqual([count_behind(web, "a", beats) for beats in (0, 1, FAR)], [0, 0, 0])

    def test_nth_left_out(self):
        for spot in ("a", "b", ("s", 1), ("s", 2), ("t", 3)):
            self.assertEqual(cry_of(ring(6), spot), cry_of(ring(6), spot, nth=1))

    def test_nobody_there_to_answer(self):
        web = Web([("a", 0), ("b", 0)], [("t", "a", "b", 9, ((4, 1), (5, 1)))])
        self.assertEqual([cry_of(web, ("t", place)) for place in range(1, 9)], [3, 2, 1, None, None, 1, 2, 3])


class FarAhead(unittest.TestCase):
    def test_round_and_round(self):
        # A cry goes round a ring of two ways: each spot is set once in as many beats as the ring is long.
        for length in (5, 10 ** 15, LONGEST):
            web = ring(length)
            whole = 2 * length
            self.assertEqual(cry_of(web, "b"), length - 2)
            self.assertEqual(cry_of(web, "a"), whole - 2)
            for nth in (1, 2, 10 ** 30, FAR):
                self.assertEqual(cry_of(web, "b", nth=nth), length - 2 + (nth - 1) * whole)
                self.assertEqual(cry_of(web, ("s", 2), nth=nth), nth * whole)
                self.assertEqual(cry_of(web, ("s", 1), nth=nth), nth * whole - 1)
                self.assertEqual(cry_of(web, ("t", 4), nth=nth), length + 2 + (nth - 1) * whole)
            for beats in (length - 3, length - 2, 10 ** 40, FAR):
                self.assertEqual(count_behind(web, "b", beats), (beats + whole - (length - 2)) // whole)
                self.assertEqual(count_behind(web, ("t", 4), beats), (beats + whole - (length + 2)) // whole)

    def test_states_far_ahead(self):
        web = ring(LONGEST)
        beats = LONGEST - 2 + 10 ** 28 * 2 * LONGEST
        self.assertEqual([state_behind(web, "b", beats + more) for more in (-1, 0, 1, 2)], [0, 1, 2, 0])
        self.assertEqual([state_behind(web, ("t", 1), beats + more) for more in (-1, 0, 1, 2, 3)], [0, 0, 1, 2, 0])
        self.assertEqual([state_behind(web, ("s", LONGEST - 1), beats + more) for more in (-1, 0, 1)], [1, 2, 0])

    def test_short_ring_and_long_way(self):
        # A ring of 3 steps that cries once a round, and far away a person who hears it.
        near = Web([("a", 1), ("b", 0), ("c", 0)], [("s", "a", "b", 2, ((1, 2),)), ("t", "a", "b", 4, ())])
        told = Web([("a", 1), ("b", 0), ("c", 0)],
                   [("s", "a", "b", 2, ((1, 2),)), ("t", "a", "b", 4, ()), ("u", "b", "c", LONGEST, ())])
        first = cry_of(near, "b")
        self.assertEqual(first, 4)
        for nth in (1, 2, 3, 10 ** 30, FAR):
            self.assertEqual(cry_of(told, "b", nth=nth), cry_of(near, "b", nth=nth))
            self.assertEqual(cry_of(told, "b", nth=nth), 4 + 6 * (nth - 1))
            self.assertEqual(cry_of(told, "c", nth=nth), LONGEST + 4 + 6 * (nth - 1))
            self.assertEqual(cry_of(told, ("u", 10 ** 29), nth=nth), 10 ** 29 + 4 + 6 * (nth - 1))
        self.assertEqual(count_behind(told, "c", FAR), (FAR - LONGEST - 4) // 6 + 1)

    def test_rounds(self):
        web = rounds()
        for beats in (0, 1, 2, 3, 4, 10 ** 30, FAR):
            self.assertEqual(counts_behind(web, beats), {"x": beats, "y": beats, "z": beats, "w": 0})
            self.assertEqual([state_behind(web, who, beats) for who in "xyzw"],
                             [beats % 3, (beats + 1) % 3, (beats + 2) % 3, 0])
        self.assertEqual(cry_of(web, "y", nth=FAR), FAR)
        # A tail behind the ring lags behind by no more than it is long.
        chain = Web([("x", 0), ("y", 1), ("z", 2), ("v", 0), ("w", 0)],
                    [("xy", "x", "y", 1, ()), ("yz", "y", "z", 1, ()), ("zx", "z", "x", 1, ()),
                     ("xv", "x", "v", 1, ()), ("vw", "v", "w", 1, ())], rounds=True)
        self.assertEqual(counts_behind(chain, FAR), {"x": FAR, "y": FAR, "z": FAR, "v": FAR - 1, "w": FAR - 2})
        self.assertEqual(cry_of(chain, "w", nth=FAR), FAR + 2)

    def test_most_persons_and_ties(self):
        persons = [(name, 0) for name in LETTERS[:8]]
        ties = [("t" + LETTERS[at], LETTERS[at], LETTERS[(at + 1) % 8], LONGEST, ()) for at in range(8)]
        ties += [("u" + LETTERS[at], LETTERS[at], LETTERS[at + 4], LONGEST, ()) for at in range(4)]
        ties[0] = ("ta", "a", "b", LONGEST, ((5, 2), (6, 1)))
        ties[2] = ("tc", "c", "d", LONGEST, tuple((place, 1 + place % 2) for place in range(10, 20)))
        web = Web(persons, ties)
        counts = counts_behind(web, FAR)
        for person in web.persons():
            count = counts[person]
            self.assertEqual(count_behind(web, person, FAR), count)
            self.assertLessEqual(cry_of(web, person, nth=count), FAR)
            self.assertGreater(cry_of(web, person, nth=count + 1), FAR)


class Refused(unittest.TestCase):
    def test_no_such(self):
        for web in (cries(), rounds()):
            for thing in anything() + ["gus", "road", "xy", ("road", 0), ("road", 5), ("road", True), Odd()]:
                for ask in (lambda: count_behind(web, thing, 1), lambda: cry_of(web, thing),
                            lambda: state_behind(web, thing, 1), lambda: count_behind(web, thing, -1),
                            lambda: cry_of(web, thing, nth=0), lambda: state_behind(web, thing, Odd())):
                    with self.assertRaises(NoSuch) as caught:
                        ask()
                    self.assertIs(caught.exception.who, thing)

    def test_no_count(self):
        for web, spot in ((cries(), "ann"), (cries(), ("path", 1)), (rounds(), "x")):
            for thing in no_counts():
                for ask in (lambda: count_behind(web, spot, thing), lambda: state_behind(web, spot, thing),
                            lambda: cry_of(web, spot, nth=thing), lambda: counts_behind(web, thing)):
                    with self.assertRaises(NoCount):
                        ask()

    def test_nth_of_nothing(self):
        for thing in (0, False, True, -1):
            with self.assertRaises(NoCount):
                cry_of(cries(), "ann", nth=thing)

    def test_nth_by_name_alone(self):
        with self.assertRaises(TypeError):
            cry_of(cries(), "ann", 1)


class Told(unittest.TestCase):
    def test_own_dict_in_order(self):
        for web in (cries(), rounds()):
            told = counts_behind(web, 9)
            self.assertEqual(list(told), web.persons())
            due = dict(told)
            told.clear()
            self.assertEqual(counts_behind(web, 9), due)
            self.assertIsNot(counts_behind(web, 9), counts_behind(web, 9))

    def test_by_name(self):
        web = cries()
        self.assertEqual(count_behind(web=web, spot="ann", beats=9), count_behind(web, "ann", 9))
        self.assertEqual(state_behind(web=web, spot="ann", beats=9), state_behind(web, "ann", 9))
        self.assertEqual(counts_behind(web=web, beats=9), counts_behind(web, 9))
        self.assertEqual(cry_of(web=web, spot="ann", nth=1), cry_of(web, "ann"))

    def test_the_web_stays(self):
        web = cries()
        counts_behind(web, FAR)
        cry_of(web, ("way", 10 ** 20), nth=3)
        state_behind(web, "ann", 5)
        self.assertEqual(web, cries())

    def test_one_beat_less(self):
        # What is told ahead of a web gone a beat is what was told before, one beat less.
        for web in some_webs(113, 20, 40):
            then = web
            for gone in range(1, 6):
                try:
                    then = beat(then)
                except ArithmeticError:
                    break
                for person in web.persons():
                    done = count_behind(web, person, gone)
                    self.assertEqual(count_behind(then, person, 10 ** 40),
                                     count_behind(web, person, 10 ** 40 + gone) - done)
                    nth = cry_of(web, person, nth=done + 3)
                    self.assertEqual(cry_of(then, person, nth=3), None if nth is None else nth - gone)


if __name__ == "__main__":
    unittest.main()
