"""[13], papers as they are told; and of [4] that counts are sums, of walks that can be shown."""

import random
import unittest

from plain import LETTERS, Plain, cries_web, rounds_web, some_webs, told_beats
from samples import Odd, anything, cries, no_counts, rounds
from test_far import gone_or_none, long_webs
from test_sums import about, rows_of

from crywalks.counts import count_behind, counts_behind, cry_of
from crywalks.errors import NoCount, NoSuch
from crywalks.judge import read_paper, shown_by
from crywalks.papers import paper_of
from crywalks.walks import walk_read
from crywalks.webs import LONGEST, Web

FAR = 10 ** 59 + 7


def spelled(paper):
    """The pieces of the walk of a paper's last row, all of them, without the judge."""
    walks = []
    for row in paper:
        walks.append([row[1:]] if row[0] == "piece" else walks[row[1]] + walks[row[2]])
    return walks[-1] if walks else []


def crowd_of_knots():
    """As many persons, ties and told hearers as there can be, ways short and long."""
    persons = [(name, 0) for name in LETTERS[:8]]
    ties = [("t" + LETTERS[at], LETTERS[at], LETTERS[(at + 1) % 8], 2 + at * 10 ** 25, ()) for at in range(8)]
    ties += [("u" + LETTERS[at], LETTERS[at], LETTERS[at + 4], LONGEST, ()) for at in range(4)]
    ties[1] = ("tb", "b", "c", 10 ** 25, ((5, 2), (6, 1)))
    ties[3] = ("td", "d", "e", 40, tuple((place, 1 + place % 2) for place in range(10, 20)))
    return Web(persons, ties)


class Shows(unittest.TestCase):
    def assert_shows(self, web, person, beats, due):
        """The paper begins at the person, has at most so many steps, and turns by just so much."""
        paper = paper_of(web, person, beats)
        self.assertIsInstance(paper, list)
        self.assertEqual(shown_by(web, person, beats, paper), due)
        told = read_paper(web, paper)
        if told is None:
            self.assertEqual((paper, due), ([], 0))
            return paper
        begin, end, length, turn = told
        self.assertEqual((begin, turn), (person, due))
        self.assertLessEqual(length, beats)
        self.assertTrue(web.has_spot(end))
        return paper

    def test_few_beats(self):
        for web in some_webs(131, 48):
            rows = told_beats(web, 30)
            for beats in (0, 1, 2, 3, 5, 9, 17, 30):
                for person in web.persons():
                    with self.subTest(web=web, person=person, beats=beats):
                        paper = self.assert_shows(web, person, beats, rows[beats][0][person])
                        if paper:
                            self.assertEqual(walk_read(web, spelled(paper)), read_paper(web, paper))

    def test_steps_one_by_one(self):
        # Read by nobody but this: the walk's steps, each to one next to it, and what they come to.
        for web in some_webs(132, 24):
            plain = Plain(web)
            for person in web.persons():
                steps = [person]
                for tie, start, goal in spelled(paper_of(web, person, 25)):
                    row = plain.row(tie)
                    way = row[start:goal + 1] if start < goal else row[goal:start + 1][::-1]
                    self.assertEqual(way[0], steps[-1])
                    steps += way[1:]
                self.assertLessEqual(len(steps) - 1, 25)
                turn = sum(plain.turn(one, other) for one, other in zip(steps, steps[1:]))
                self.assertEqual(turn, count_behind(web, person, 25))

    def test_at_the_very_beat_of_a_cry(self):
        for web in some_webs(133, 24, 12):
            for person in web.persons():
                for nth in (1, 2, 5, 100):
                    cry = cry_of(web, person, nth=nth)
                    if cry is not None:
                        self.assert_shows(web, person, cry, nth)
                        self.assert_shows(web, person, cry - 1, nth - 1)
                        # No walk of turn nth is shorter than the cry is late.
                        self.assertEqual(read_paper(web, paper_of(web, person, cry))[2], cry)

    def test_many_beats(self):
        seen = 0
        for web in some_webs(134, 24, 40):
            for beats in (10 ** 30, 10 ** 30 + 1, FAR):
                counts = counts_behind(web, beats)
                for person in web.persons():
                    self.assert_shows(web, person, beats, counts[person])
                    seen += counts[person] > 10 ** 20
        self.assertGreater(seen, 50)

    def test_long_ways(self):
        for web, scale in long_webs(135, 20):
            for beats in (scale, 20 * scale, 10 ** 31, FAR):
                counts = counts_behind(web, beats)
                for person in web.persons():
                    self.assert_shows(web, person, beats, counts[person])

    def test_most_persons_ties_and_hearers(self):
        web = crowd_of_knots()
        for beats in (10 ** 26, 10 ** 30, FAR):
            counts = counts_behind(web, beats)
            self.assertGreater(max(counts.values()), 0)
            for person in web.persons():
                self.assert_shows(web, person, beats, counts[person])

    def test_cries_by_hand(self):
        web = Web([("a", 0), ("b", 0)], [("s", "a", "b", LONGEST, ((1, 2), (2, 1))), ("t", "b", "a", LONGEST, ())])
        for beats, count in ((LONGEST - 3, 0), (LONGEST - 2, 1), (3 * LONGEST - 3, 1), (3 * LONGEST - 2, 2),
                             (LONGEST - 2 + 2 * LONGEST * 10 ** 28, 10 ** 28 + 1)):
            self.assert_shows(web, "b", beats, count)

    def test_rounds_by_hand(self):
        web = rounds()
        for beats in (0, 1, 2, 3, 7, 10 ** 30, FAR):
            for person in "xyz":
                self.assert_shows(web, person, beats, beats)
            self.assert_shows(web, "w", beats, 0)

    def test_counts_of_nothing(self):
        alone = Web([("a", 1)])
        for beats in (0, 1, 10 ** 30, FAR):
            self.assert_shows(alone, "a", beats, 0)
            self.assert_shows(Web([("a", 2)], rounds=True), "a", beats, 0)
            self.assert_shows(Web([("a", 1), ("b", 0)], [("t", "a", "b", 5, ())]), "a", beats, 0)
            self.assert_shows(Web([("a", 0), ("b", 0)], [("t", "a", "b", 5, ((2, 2),))]), "b", beats, 0)
        self.assert_shows(cries(), "ann", 0, 0)

    def test_greatest_of_all_walks(self):
        dice = random.Random(136)
        for web in [cries_web(dice, 3) for _ in range(16)] + [rounds_web(dice) for _ in range(8)]:
            plain = Plain(web)
            if max(len(near) for near in plain.near.values()) > 5:
                continue
            for person in web.persons():
                for steps in range(6):
                    self.assert_shows(web, person, steps, plain.greatest_turn(person, steps))

    def test_behind_some_beats(self):
        # The paper of a web gone some beats shows what is left of the count.
        seen = 0
        for web, scale in long_webs(137, 30):
            then = gone_or_none(web, 3 * scale)
            if then is not None:
                seen += 1
                for person in web.persons():
                    left = count_behind(web, person, 10 ** 40 + 3 * scale) - count_behind(web, person, 3 * scale)
                    self.assert_shows(then, person, 10 ** 40, left)
        self.assertGreater(seen, 10)

    def test_what_has_no_bearing(self):
        for web in some_webs(138, 24, 12):
            persons, ties = rows_of(web)
            other = Web(persons[::-1], [about(tie) for tie in ties[::-1]], rounds=web.rounds())
            for person in web.persons():
                for beats in (4, 19, FAR):
                    there = read_paper(other, paper_of(other, person, beats))
                    due = count_behind(web, person, beats)
                    self.assertEqual(0 if there is None else there[3], due)
                    # In another order it is the same walk.
                    same = Web(persons[::-1], ties[::-1], rounds=web.rounds())
                    paper = paper_of(same, person, beats)
                    self.assertEqual(read_paper(same, paper), read_paper(web, paper))


class Refused(unittest.TestCase):
    def test_no_such(self):
        for web in (cries(), rounds()):
            for thing in anything() + ["gus", "road", "xy", ("road", 1), ("road", 2), Odd()]:
                for beats in (1, -1, True, Odd()):
                    with self.assertRaises(NoSuch) as caught:
                        paper_of(web, thing, beats)
                    self.assertIs(caught.exception.who, thing)

    def test_no_count(self):
        for web, person in ((cries(), "ann"), (cries(), "dan"), (rounds(), "x")):
            for thing in no_counts():
                with self.assertRaises(NoCount):
                    paper_of(web, person, thing)


class Told(unittest.TestCase):
    def test_own_list(self):
        for web, person in ((cries(), "ann"), (rounds(), "x"), (cries(), "dan")):
            told = paper_of(web, person, 9)
            due = list(told)
            told.append("more")
            self.assertEqual(paper_of(web, person, 9), due)
            self.assertIsNot(paper_of(web, person, 9), paper_of(web, person, 9))

    def test_the_web_stays(self):
        web = cries()
        paper_of(web, "ann", FAR)
        self.assertEqual(web, cries())

    def test_by_name(self):
        self.assertEqual(paper_of(web=cries(), person="ann", beats=9), paper_of(cries(), "ann", 9))


if __name__ == "__main__":
    unittest.main()
