"""[8]: a web's text, and which texts are read."""

import unittest

from samples import anything, cries, many_persons, many_ties, rounds

from crywalks.errors import NoText
from crywalks.webs import LONGEST, Web
from crywalks.webtexts import read_web, web_text

HEAD = "cries\nperson a 0\nperson b 1\n"
ROUNDS_HEAD = "rounds\nperson a 0\nperson b 1\n"
TWO = [("a", 0), ("b", 1)]


def sample_webs():
    twelve = tuple([(place, 1 + place % 2) for place in range(1, 13)])
    return [
        cries(), rounds(), Web([("a", 0)]), Web([("a", 2)], rounds=True), Web(many_persons(8), many_ties(12)),
        Web(many_persons(8), many_ties(12, 1), rounds=True), Web(TWO, [("t", "a", "b", 13, twelve)]),
        Web([("person", 0), ("tie", 1)], [("cries", "tie", "person", 10, ((9, 1),))]),
        Web(TWO, [("t", "b", "a", LONGEST, ((LONGEST - 1, 2),))]),
    ]


class Text(unittest.TestCase):
    def test_of_cries(self):
        self.assertEqual(web_text(cries()), (
            "cries\n"
            "person bob 1\n"
            "person ann 0\n"
            "person eve 2\n"
            "person dan 0\n"
            "person cyd 0\n"
            "person fay 1\n"
            "tie road ann bob 5 1 1 2 2 4 1\n"
            "tie path bob ann 2\n"
            "tie way cyd eve 1000000000000000000000000000000 1 2 999999999999999999999999999999 1\n"
            "tie lane bob fay 3 2 2\n"))

    def test_of_rounds(self):
        self.assertEqual(web_text(rounds()), (
            "rounds\nperson x 0\nperson y 1\nperson z 2\nperson w 0\n"
            "tie xy x y 1\ntie yz y z 1\ntie zx z x 1\n"))

    def test_of_one_person(self):
        self.assertEqual(web_text(Web([("a", 0)])), "cries\nperson a 0\n")
        self.assertEqual(web_text(Web([("a", 2)], rounds=True)), "rounds\nperson a 2\n")


class Read(unittest.TestCase):
    def test_each_text_gives_an_equal_web(self):
        for web in sample_webs():
            with self.subTest(web=web):
                self.assertEqual(read_web(web_text(web)), web)
                self.assertEqual(web_text(read_web(web_text(web))), web_text(web))

    def test_word_by_word(self):
        web = read_web("cries\nperson bob 1\nperson a 0\ntie t a bob 12 1 1 10 2\n")
        self.assertEqual(web, Web([("bob", 1), ("a", 0)], [("t", "a", "bob", 12, ((1, 1), (10, 2)))]))


class Refused(unittest.TestCase):
    def assert_row(self, row, text):
        with self.subTest(text=text):
            with self.assertRaises(NoText) as caught:
                read_web(text)
            self.assertEqual(caught.exception.row, row)

    def test_no_text(self):
        for thing in anything():
            if not isinstance(thing, str):
                with self.assertRaises(NoText) as caught:
                    read_web(thing)
                self.assertEqual(caught.exception.row, 0)
        self.assert_row(0, web_text(cries()).encode())
        self.assert_row(0, [web_text(cries())])
        self.assert_row(0, cries())

    def test_not_whole(self):
        self.assert_row(1, "")
        self.assert_row(2, "cries\n")
        self.assert_row(2, "rounds\n")

    def test_last_row_without_its_line_feed(self):
        self.assert_row(1, "cries")
        self.assert_row(1, "rounds")
        self.assert_row(1, "crie")
        self.assert_row(2, "cries\nperson a 0")
        self.assert_row(2, "cries\np")
        self.assert_row(2, "cries\n ")
        self.assert_row(3, "cries\nperson a 0\nx")
        self.assert_row(4, HEAD + "tie t a b 2")
        self.assert_row(4, HEAD + "person")
        for web in sample_webs():
            text = web_text(web)
            self.assert_row(text.count("\n"), text[:-1])

    def test_rows_of_nothing(self):
        self.assert_row(1, "\n")
        self.assert_row(1, "\n" + HEAD)
        self.assert_row(2, "cries\n\n")
        self.assert_row(2, "cries\n\nperson a 0\n")
        self.assert_row(4, HEAD + "\n")
        self.assert_row(4, HEAD + "\n\n")

    def test_first_row(self):
        for head in ("Cries", "cry", "criess", "cries ", " cries", "cries cries", "round", "rounds 1", "person a 0",
                     "web", "cries\t"):
            self.assert_row(1, head + "\nperson a 0\n")

    def test_wrong_last_row_has_its_number(self):
        for row in ("", " ", "x", "person", "person c", "person c 0 0", "person c 3", "person c 00", "person c 01",
                    "person c +1", "person c -1", "person c x", "person c ", "person c  0", "person  c 0",
                    " person c 0", "person c 0 ", "Person c 0", "person C 0", "person abcdefghi 0", "person a 0",
                    "person a 2", "person 0 c", "persons c 0", "person c 0\t", "person\tc 0", "cries", "rounds",
                    "person c True", "person c 1_0"):
            self.assert_row(4, HEAD + row + "\n")
            self.assert_row(4, ROUNDS_HEAD + row + "\n")

    def test_wrong_tie_in_cries(self):
        for row in ("tie", "tie t", "tie t a", "tie t a b", "tie t a b ", "tie t a b x", "tie t a b 1", "tie t a b 0",
                    "tie t a b 02", "tie t a b 002", "tie t a b -2", "tie t a b +2", "tie t a b 2 ", "tie t a b  2",
                    " tie t a b 2", "tie  t a b 2", "tie t  a b 2", "tie t a  b 2", "tie t a a 2", "tie t a c 2",
                    "tie t c b 2", "tie a a b 2", "tie b a b 2", "tie T a b 2", "tie abcdefghi a b 2", "tie  a b 2",
                    "tie t a b 1000000000000000000000000000001", "tie t a b 10000000000000000000000000000000",
                    "ties t a b 2", "Tie t a b 2", "tie t a b 1_0", "tie t a b 2 1", "tie t a b 2 1 0",
                    "tie t a b 2 1 3", "tie t a b 2 0 1", "tie t a b 2 2 1", "tie t a b 2 3 1", "tie t a b 2 01 1",
                    "tie t a b 2 1 01", "tie t a b 2 1 x", "tie t a b 2 x 1", "tie t a b 2 1 1 ", "tie t a b 2  1 1",
                    "tie t a b 2 1  1", "tie t a b 9 1 1 1 1", "tie t a b 9 2 1 1 1", "tie t a b 9 1 1 9 1",
                    "tie t a b 9 1 1 2", "tie t a b 9 1 1 2 0", "tie t a b 9 1 1 2 2 "):
            self.assert_row(4, HEAD + row + "\n")
            self.assert_row(4, HEAD + row + "\ntie u a b 2\n")
            self.assert_row(5, HEAD + "tie u a b 2\n" + row + "\n")

    def test_wrong_tie_in_rounds(self):
        for row in ("tie t a b 2", "tie t a b 0", "tie t a b 01", "tie t a b 1 ", "tie t a b 1 1 1", "tie t a b 1 0 1",
                    "tie t a b 1 1", "tie t a b", "tie t a a 1"):
            self.assert_row(4, ROUNDS_HEAD + row + "\n")
        self.assertEqual(read_web(ROUNDS_HEAD + "tie t a b 1\n").length("t"), 1)

    def test_rows_in_order(self):
        self.assert_row(2, "cries\ntie t a b 2\nperson a 0\nperson b 0\n")
        self.assert_row(2, "cries\ntie t a b 2\n")
        self.assert_row(3, "cries\nperson a 0\ntie t a b 2\nperson b 0\n")
        self.assert_row(5, HEAD + "tie t a b 2\nperson c 0\n")
        self.assert_row(4, HEAD + "tie t a c 2\nperson c 0\n")
        self.assert_row(2, "cries\ncries\nperson a 0\n")

    def test_names_again(self):
        self.assert_row(4, HEAD + "person b 0\n")
        self.assert_row(5, HEAD + "tie t a b 2\ntie t a b 2\n")
        self.assert_row(4, HEAD + "tie a a b 2\n")

    def test_too_many(self):
        persons = web_text(Web(many_persons(8)))
        self.assertEqual(len(read_web(persons)), 8)
        self.assert_row(10, persons + "person z 0\n")
        self.assert_row(10, persons + "person z 0\nnonsense\n")
        ties = web_text(Web(TWO, many_ties(12)))
        self.assertEqual(len(read_web(ties).ties()), 12)
        self.assert_row(16, ties + "tie z a b 2\n")
        twelve = "tie t a b 20" + "".join([f" {place} 1" for place in range(1, 13)])
        self.assertEqual(len(read_web(HEAD + twelve + "\ntie u a b 2\n").hearers("t")), 12)
        self.assert_row(4, HEAD + twelve + " 13 1\n")
        self.assert_row(5, HEAD + twelve + "\ntie u a b 2 1 1\n")
        self.assert_row(6, HEAD + twelve + "\ntie u a b 2\ntie v a b 2 1 2\n")

    def test_first_wrong_row_of_several(self):
        self.assert_row(1, "crie\nperson A 0\nx")
        self.assert_row(2, "cries\nperson A 0\nx\n")
        self.assert_row(3, "cries\nperson a 0\nx\ny")
        self.assert_row(3, "cries\nperson a 0\nperson a 0\nperson b 0\ntie t a b 1\n")

    def test_figures_without_end(self):
        for figures in (32, 60, 4300, 4301, 5800):
            self.assert_row(4, HEAD + "tie t a b " + "9" * figures + "\n")
            self.assert_row(4, HEAD + "tie t a b 9 " + "1" * figures + " 1\n")
            self.assert_row(3, "cries\nperson a 0\nperson b " + "0" * figures + "\n")
            self.assert_row(4, HEAD + "tie t a b 9 1 " + "2" * figures + "\n")

    def test_length_edges(self):
        for length in (2, 9, 10, LONGEST - 1, LONGEST):
            self.assertEqual(read_web(f"{HEAD}tie t a b {length}\n").length("t"), length)
        self.assert_row(4, f"{HEAD}tie t a b {LONGEST + 1}\n")

    def test_each_start_of_a_text(self):
        for web in sample_webs():
            text = web_text(web)
            for end in range(len(text)):
                start = text[:end]
                if start.endswith("\n") and start.count("\n") > 1:
                    self.assertEqual(web_text(read_web(start)), start)
                else:
                    self.assert_row(start.count("\n") + 1, start)

    def test_a_blank_too_many_anywhere(self):
        for web in sample_webs():
            text = web_text(web)
            for at in range(len(text)):
                # A blank within a name could leave other words of the right number, but never a right row.
                self.assert_row(text[:at].count("\n") + 1, text[:at] + " " + text[at:])


if __name__ == "__main__":
    unittest.main()
