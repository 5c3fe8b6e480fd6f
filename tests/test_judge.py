"""[13], papers as they are read: what they show, and what is none."""

import unittest

from plain import some_webs
from samples import Odd, anything, cries, no_counts, rounds
from test_walks import triangle

from crywalks.counts import count_behind
from crywalks.errors import NoCount, NoPaper, NoSuch
from crywalks.judge import read_paper, shown_by
from crywalks.papers import paper_of
from crywalks.walks import walk_read
from crywalks.webs import LONGEST, Web

# Of triangle(): once round it, from a to a, 13 steps, turn 2.
ROUND = [("piece", "ab", 0, 6), ("piece", "cb", 5, 0), ("piece", "ca", 0, 2), ("both", 0, 1), ("both", 3, 2)]


class Read(unittest.TestCase):
    def test_nothing(self):
        for web in (triangle(), rounds(), Web([("a", 1)])):
            self.assertIsNone(read_paper(web, []))

    def test_pieces(self):
        web = triangle()
        self.assertEqual(read_paper(web, [("piece", "ab", 0, 6)]), ("a", "b", 6, 2))
        self.assertEqual(read_paper(web, [("piece", "ab", 6, 0)]), ("b", "a", 6, -2))
        self.assertEqual(read_paper(web, [("piece", "ab", 3, 1)]), (("ab", 3), ("ab", 1), 2, -1))
        self.assertEqual(read_paper(web, [("piece", "ac", 1, LONGEST)]), (("ac", 1), "c", LONGEST - 1, 0))
        self.assertEqual(read_paper(rounds(), [("piece", "zx", 1, 0)]), ("x", "z", 1, -1))

    def test_both(self):
        web = triangle()
        self.assertEqual(read_paper(web, ROUND[:4]), ("a", "c", 11, 2))
        self.assertEqual(read_paper(web, ROUND), ("a", "a", 13, 2))
        walk = [row[1:] for row in ROUND[:3]]
        self.assertEqual(read_paper(web, ROUND), walk_read(web, walk))
        # Amid a tie, where a hearer stands, too.
        self.assertEqual(read_paper(web, [("piece", "ab", 1, 2), ("piece", "ab", 2, 5), ("both", 0, 1)]),
                         (("ab", 1), ("ab", 5), 4, 1))
        # In another order than that of the rows.
        self.assertEqual(read_paper(web, [("piece", "cb", 5, 0), ("piece", "ab", 0, 6), ("both", 1, 0)]),
                         ("a", "c", 11, 2))

    def test_one_row_twice(self):
        web = triangle()
        self.assertEqual(read_paper(web, ROUND + [("both", 4, 4)]), ("a", "a", 26, 4))
        self.assertEqual(read_paper(web, ROUND + [("both", 4, 4), ("both", 5, 4), ("both", 5, 6)]), ("a", "a", 65, 10))

    def test_twice_and_twice_again(self):
        times = 1
        paper = list(ROUND)
        for number in range(4, 204):
            paper.append(("both", number, number))
            times *= 2
        self.assertEqual(read_paper(triangle(), paper), ("a", "a", 13 * times, 2 * times))

    def test_rows_that_do_not_come_into_it(self):
        web = triangle()
        aside = [("piece", "ad", 0, 3), ("piece", "ac", 5, 6), ("both", 0, 1)]
        for row in aside[:2]:
            self.assertEqual(read_paper(web, ROUND + [row, ROUND[0]]), ("a", "b", 6, 2))
            self.assertEqual(read_paper(web, [row, row, ROUND[0]]), ("a", "b", 6, 2))
        self.assertEqual(read_paper(web, ROUND + aside[2:]), ("a", "c", 11, 2))
        self.assertEqual(read_paper(web, ROUND + [aside[0]]), ("a", "d", 3, 0))
        self.assertEqual(read_paper(web, [aside[0], ROUND[0], ROUND[1], ("both", 1, 2)]), ("a", "c", 11, 2))

    def test_many_rows(self):
        paper = [("piece", "xy", 0, 1), ("piece", "yz", 0, 1), ("piece", "zx", 0, 1), ("both", 0, 1), ("both", 3, 2)]
        for number in range(4, 3999):
            paper.append(("both", number, 4))
        self.assertEqual(len(paper), 4000)
        self.assertEqual(read_paper(rounds(), paper), ("x", "x", 3 * 3996, 3 * 3996))

    def test_handed_in_stays(self):
        web = triangle()
        paper = list(ROUND)
        self.assertEqual(read_paper(web=web, paper=paper), ("a", "a", 13, 2))
        self.assertEqual(shown_by(web=web, person="a", beats=13, paper=paper), 2)
        self.assertEqual((paper, web), (ROUND, triangle()))


class NoPapers(unittest.TestCase):
    def assert_none(self, web, thing, row):
        first = web.persons()[0]
        for ask in (lambda: read_paper(web, thing), lambda: shown_by(web, first, 5, thing),
                    lambda: shown_by(web, first, 0, thing)):
            with self.assertRaises(NoPaper) as caught:
                ask()
            self.assertEqual(caught.exception.row, row)

    def assert_no_row(self, web, row, right):
        """It is none as the first one, nor behind right ones, nor ahead of others."""
        self.assert_none(web, [row], 0)
        self.assert_none(web, [row, row], 0)
        self.assert_none(web, [row] + right, 0)
        self.assert_none(web, right + [row], len(right))
        self.assert_none(web, right + [row] + right, len(right))
        self.assert_none(web, right[:2] + [row] + right[2:], 2)

    def test_no_list(self):
        for web in (triangle(), rounds()):
            for thing in anything() + [tuple(ROUND), ROUND[0], "both", {0: ROUND[0]}, 0, 1]:
                if not isinstance(thing, list):
                    self.assert_none(web, thing, 0)

    def test_anything_as_a_row(self):
        for thing in anything() + [list(ROUND[0]), "piece", "both", ["both", 0, 1], {"piece": 1}, 0, 1, (Odd(), 0, 1),
                                   [Odd(), 0, 1], (["piece"], "ab", 0, 6), (b"both", 0, 1)]:
            self.assert_no_row(triangle(), thing, ROUND)

    def test_another_word(self):
        for word in ("pieces", "Piece", "", " piece", "one", "tie", "ab", None, 0, True, b"piece", ("piece",)):
            self.assert_no_row(triangle(), (word, "ab", 0, 6), ROUND)
            self.assert_no_row(triangle(), (word, 0, 1), ROUND)
        self.assert_no_row(triangle(), ("both", "ab", 0, 6), ROUND)
        self.assert_no_row(triangle(), ("piece", 0, 1), ROUND)

    def test_too_long_and_too_short(self):
        for row in (("piece",), ("piece", "ab"), ("piece", "ab", 0), ("piece", "ab", 0, 6, 6), ("piece", "ab", 0, 6, None),
                    ("piece", ("ab", 0, 6)), ("both",), ("both", 0), ("both", 0, 1, 1), ("both", 0, 1, 2), ("both", (0, 1))):
            self.assert_no_row(triangle(), row, ROUND)

    def test_no_tie(self):
        for thing in anything() + ["gus", "a", ("ab", 1), 0, Odd()]:
            self.assert_no_row(triangle(), ("piece", thing, 0, 1), ROUND)

    def test_no_place(self):
        for thing in anything() + ["0", -1, 7, LONGEST, (0,), [0], Odd(), True, False]:
            self.assert_no_row(triangle(), ("piece", "ab", thing, 2), ROUND)
            self.assert_no_row(triangle(), ("piece", "ab", 2, thing), ROUND)
        for place in (0, 3, 6):
            self.assert_no_row(triangle(), ("piece", "ab", place, place), ROUND)

    def test_true_and_false_as_places(self):
        right = [("piece", "xy", 0, 1), ("piece", "yz", 0, 1), ("piece", "zx", 0, 1)]
        self.assertEqual(read_paper(rounds(), right), ("z", "x", 1, 1))
        for row in (("piece", "xy", False, 1), ("piece", "xy", 0, True), ("piece", "xy", True, False)):
            self.assert_no_row(rounds(), row, right)

    def test_true_and_false_as_numbers(self):
        self.assertEqual(read_paper(triangle(), ROUND[:2] + [("both", 0, 1)]), ("a", "c", 11, 2))
        for row in (("both", False, 1), ("both", 0, True), ("both", False, True)):
            self.assert_no_row(triangle(), row, ROUND)

    def test_no_number_of_a_row(self):
        for thing in anything() + ["0", -1, -2, -5, None, (0,), [0], Odd(), 10 ** 59]:
            self.assert_no_row(triangle(), ("both", thing, 1), ROUND)
            self.assert_no_row(triangle(), ("both", 0, thing), ROUND)

    def test_not_ahead_of_it(self):
        web = triangle()
        there = ROUND[0]
        back = ("piece", "ab", 6, 0)
        self.assertEqual(read_paper(web, [there, back, ("both", 0, 1)]), ("a", "a", 12, 0))
        for row in (("both", 2, 1), ("both", 0, 2), ("both", 2, 2), ("both", 0, 3), ("both", 3, 0), ("both", 99, 0)):
            self.assert_none(web, [there, back, row], 2)
            self.assert_none(web, [there, back, row, there, back, there], 2)
        self.assert_none(web, [("both", 1, 2), there, back], 0)
        self.assert_none(web, [("both", 0, 0)], 0)
        self.assert_none(web, [there, ("both", 0, 2), back], 1)

    def test_begins_elsewhere(self):
        web = triangle()
        self.assert_none(web, ROUND[:2] + [("both", 1, 0)], 2)
        self.assert_none(web, ROUND[:2] + [("both", 0, 0)], 2)
        self.assert_none(web, ROUND + [("both", 3, 3)], 5)
        self.assert_none(web, ROUND + [("both", 4, 1)], 5)
        for other in (("piece", "ab", 4, 6), ("piece", "cb", 3, 0), ("piece", "ad", 0, 3)):
            self.assert_none(web, [("piece", "ab", 0, 3), other, ("both", 0, 1)], 2)

    def test_first_one_decides(self):
        web = triangle()
        self.assert_none(web, [ROUND[0], ("both", 0, 0), "no", ("piece", "gus", 0, 1)], 1)
        self.assert_none(web, [ROUND[0], "no", ("both", 0, 0)], 1)
        # Also where the row has no part in the last one's walk.
        self.assert_none(web, [("piece", "gus", 0, 1), ROUND[0]], 0)

    def test_of_this_web(self):
        # A paper of one web may be none of another.
        self.assert_none(rounds(), ROUND, 0)
        short = Web([("a", 0), ("b", 1), ("c", 0)], [("ab", "a", "b", 6, ()), ("cb", "c", "b", 4, ()), ("ca", "c", "a", 2, ())])
        self.assert_none(short, ROUND, 1)


class Shown(unittest.TestCase):
    def test_turn(self):
        web = triangle()
        for beats in (13, 14, 10 ** 30, 10 ** 59):
            self.assertEqual(shown_by(web, "a", beats, ROUND), 2)
        self.assertEqual(shown_by(web, "a", 6, ROUND[:1]), 2)
        self.assertEqual(shown_by(web, "c", 5, [("piece", "cb", 0, 5)]), 0)

    def test_below_nothing(self):
        web = triangle()
        self.assertEqual(shown_by(web, "b", 6, [("piece", "ab", 6, 0)]), -2)
        back = [("piece", "ca", 2, 0), ("piece", "cb", 0, 5), ("piece", "ab", 6, 0), ("both", 0, 1), ("both", 3, 2)]
        self.assertEqual(shown_by(web, "a", 13, back), -2)
        self.assertEqual(shown_by(rounds(), "y", 1, [("piece", "xy", 1, 0)]), -1)

    def test_longer(self):
        web = triangle()
        for beats in (0, 1, 12):
            self.assertIsNone(shown_by(web, "a", beats, ROUND))
        self.assertIsNone(shown_by(web, "b", 5, [("piece", "ab", 6, 0)]))
        self.assertIsNone(shown_by(web, "a", LONGEST - 1, [("piece", "ac", 0, LONGEST)]))
        self.assertEqual(shown_by(web, "a", LONGEST, [("piece", "ac", 0, LONGEST)]), 0)

    def test_elsewhere(self):
        web = triangle()
        for person in "bcd":
            self.assertIsNone(shown_by(web, person, 13, ROUND))
        # It ends there, or leads by there, but doesn't begin there.
        self.assertIsNone(shown_by(web, "b", 6, [("piece", "ab", 0, 6)]))
        self.assertIsNone(shown_by(web, "a", 6, [("piece", "ab", 1, 6)]))
        self.assertIsNone(shown_by(web, "a", 6, [("piece", "ab", 1, 0)]))

    def test_the_last_row_alone(self):
        web = triangle()
        self.assertIsNone(shown_by(web, "a", 99, ROUND + [("piece", "cb", 0, 5)]))
        self.assertEqual(shown_by(web, "c", 99, ROUND + [("piece", "ca", 0, 2)]), 0)
        # Rows that don't come into the walk may be as long as they like.
        self.assertEqual(shown_by(web, "a", 3, [("piece", "ac", 0, LONGEST), ("piece", "ad", 0, 3)]), 0)

    def test_without_rows(self):
        for web in (triangle(), rounds(), Web([("a", 1)])):
            for person in web.persons():
                for beats in (0, 1, 10 ** 30):
                    told = shown_by(web, person, beats, [])
                    self.assertEqual(told, 0)
                    self.assertIs(type(told), int)

    def test_never_more_than_the_count(self):
        for web in some_webs(139, 24):
            papers = [(person, paper_of(web, person, beats)) for person in web.persons() for beats in (3, 8, 10 ** 30)]
            for person, paper in papers:
                for who in web.persons():
                    for beats in (2, 7, 10 ** 30):
                        told = shown_by(web, who, beats, paper)
                        if told is not None:
                            self.assertLessEqual(told, count_behind(web, who, beats))
                        elif paper:
                            begin, end, length, turn = read_paper(web, paper)
                            self.assertTrue(begin != who or length > beats)


class Refused(unittest.TestCase):
    def test_no_such_first(self):
        for web in (cries(), rounds()):
            for thing in anything() + ["gus", "road", "xy", ("road", 1), Odd()]:
                for beats, paper in ((1, []), (-1, []), (Odd(), Odd()), (1, None)):
                    with self.assertRaises(NoSuch) as caught:
                        shown_by(web, thing, beats, paper)
                    self.assertIs(caught.exception.who, thing)

    def test_then_no_count(self):
        for web, person in ((cries(), "ann"), (rounds(), "x")):
            for thing in no_counts():
                for paper in ([], None, ["no"], Odd()):
                    with self.assertRaises(NoCount):
                        shown_by(web, person, thing, paper)

    def test_then_no_paper(self):
        for beats in (0, 1, 10 ** 30):
            for thing, row in ((None, 0), (["no"], 0), (ROUND + ["no"], 5)):
                with self.assertRaises(NoPaper) as caught:
                    shown_by(triangle(), "d", beats, thing)
                self.assertEqual(caught.exception.row, row)


if __name__ == "__main__":
    unittest.main()
