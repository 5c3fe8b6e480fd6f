"""[21]: a desk, its rows, its answers, and what is refused."""

import unittest

from parts_plain import ending_rings
from plain import some_webs
from samples import Odd, anything, cries, many_persons, many_ties, rounds

from crywalks.counts import counts_behind, cry_of
from crywalks.deeds import with_length, with_person, with_state, with_tie, without_person, without_tie
from crywalks.desk import Desk
from crywalks.ends import altogether, does_end, last_beat
from crywalks.errors import (Alone, Crowded, Crying, Endless, NoBack, NoCount, NoCries, NoLength, NoName, NoRow, NoState,
                             NoSuch, NoText, Same, Taken, TooMany)
from crywalks.far import gone
from crywalks.onecries import one_cries
from crywalks.rates import rate_of
from crywalks.webs import LONGEST, Web
from crywalks.webtexts import read_web, web_text

FAR = 10 ** 59 + 7
LINE = "cries\nperson a 1\nperson b 0\ntie t a b 5\n"


def desk_of(**webs):
    """A desk with keepers of these webs, or texts, by these names."""
    desk = Desk()
    for name, web in webs.items():
        desk.say(f"open {name}\n{web if isinstance(web, str) else web_text(web)}")
    return desk


class Asks(unittest.TestCase):
    def assert_says(self, desk, rows):
        for row, answer in rows:
            with self.subTest(row=row):
                told = desk.say(row)
                self.assertIs(type(told), str)
                self.assertEqual(told, answer)

    def assert_refused(self, desk, error, row, **fields):
        with self.assertRaises(error) as caught:
            desk.say(row)
        self.assertIs(type(caught.exception), error)
        for field, worth in fields.items():
            self.assertEqual(getattr(caught.exception, field), worth)


class Answers(Asks):
    def test_open_and_show(self):
        for web in (cries(), rounds(), Web([("a", 2)])):
            desk = Desk()
            self.assert_says(desk, [("open k\n" + web_text(web), "ok"), ("show k", web_text(web))])

    def test_in_the_place_of_an_elder(self):
        desk = desk_of(k=cries(), l=rounds())
        desk.say("go k 1")
        self.assert_says(desk, [("open k\n" + LINE, "ok"), ("show k", LINE), ("back k 0", "0"), ("sum k b", "0"),
                                ("show l", web_text(rounds()))])
        self.assert_refused(desk, NoBack, "back k 1")

    def test_deeds(self):
        desk = desk_of(k=LINE)
        web = read_web(LINE)
        for row, then in (("put k b 2", lambda: with_state(web, "b", 2)),
                          ("lay k s b a 7", lambda: with_tie(web, "s", "b", "a", length=7)),
                          (f"stretch k s {LONGEST}", lambda: with_length(web, "s", LONGEST)),
                          ("come k c 1", lambda: with_person(web, "c", state=1)),
                          ("lay k u c a 2", lambda: with_tie(web, "u", "c", "a")),
                          ("cut k t", lambda: without_tie(web, "t")),
                          ("leave k c", lambda: without_person(web, "c"))):
            web = then()
            self.assert_says(desk, [(row, "ok"), ("show k", web_text(web))])
        self.assert_says(desk, [("back k 0", "7"), ("back k 2", "5"), ("back k 5", "0"), ("show k", LINE)])

    def test_rounds(self):
        desk = desk_of(k=rounds())
        self.assert_says(desk, [("lay k new w x 1", "ok"), ("stretch k new 1", "ok"), ("go k 2", "x 2 y 2 z 2 w 1"),
                                ("sum k w", "1"), ("count k w 10", "10"), ("cry k w 3", "3"), ("ends k w", "never"),
                                ("rate k w", "1 1"), ("back k 1", "2"), ("cut k new", "ok"), ("ends k w", "0 0"),
                                ("rate k w", "0 1"), ("cry k w 1", "never"), ("put k x 2", "ok"), ("come k v 2", "ok"),
                                ("leave k y", "ok"), ("go k 0", "x 0 z 0 w 0 v 0"), ("go k 1", "x 0 z 0 w 0 v 0")])

    def test_go_and_sums(self):
        desk = desk_of(k=LINE)
        self.assert_says(desk, [("go k 0", "a 0 b 0"), ("go k 4", "a 0 b 0"), ("go k 1", "a 0 b 1"), ("sum k b", "1"),
                                ("sum k a", "0"), ("go k " + "9" * 60, "a 0 b 0"), ("sum k b", "1"), ("put k b 1", "ok"),
                                ("go k 5", "a 1 b 0"), ("sum k a", "1"), ("back k 1", "5"), ("sum k a", "0")])

    def test_counts_and_cries(self):
        ring = Web([("a", 0), ("b", 0)], [("s", "a", "b", LONGEST, ((1, 2), (2, 1))), ("t", "b", "a", LONGEST, ())])
        desk = desk_of(k=ring)
        self.assert_says(desk, [("count k b 0", "0"), (f"count k b {LONGEST - 3}", "0"), (f"count k b {LONGEST - 2}", "1"),
                                ("count k b " + "9" * 60, str(counts_behind(ring, 10 ** 60 - 1)["b"])),
                                ("cry k b 1", str(LONGEST - 2)), ("cry k b " + "9" * 60, str(cry_of(ring, "b", nth=10 ** 60 - 1))),
                                (f"go k {LONGEST}", "a 0 b 1"), ("count k b 1", "0"), (f"cry k a 1", str(LONGEST - 2))])
        self.assert_says(desk_of(k=LINE), [("cry k a 1", "never"), ("cry k b 1", "5"), ("cry k b 2", "never")])

    def test_ends_rate_one(self):
        desk = desk_of(k=LINE, l=rounds(), m=Web([("a", 0), ("b", 0)], [("s", "a", "b", 9, ((4, 1),)), ("t", "b", "a", 9, ())]),
                       n=Web([("a", 0), ("b", 0)], [("s", "a", "b", 9, ((4, 1), (5, 2))), ("t", "b", "a", 9, ())]))
        self.assert_says(desk, [("ends k a", "0 0"), ("ends k b", "1 5"), ("ends l x", "never"), ("ends l w", "0 0"),
                                ("rate k a", "0 1"), ("rate l y", "1 1"), ("rate n b", "1 18"),
                                ("one k a", ""), ("one m a", "6 a 7 b"), ("one m b", "6 a 7 b"), ("ends n a", "never")])

    def test_as_the_functions(self):
        for number, web in enumerate(some_webs(211, 24) + ending_rings(211, 12)):
            desk = desk_of(k=web)
            for who in web.persons():
                ends = does_end(web, who)
                rows = [("count k " + who + " 7", str(counts_behind(web, 7)[who])),
                        (f"count k {who} {FAR}", str(counts_behind(web, FAR)[who])),
                        (f"rate k {who}", "{} {}".format(*rate_of(web, who)[0])),
                        (f"ends k {who}", f"{altogether(web, who)} {last_beat(web, who)}" if ends else "never")]
                for nth in (1, 3):
                    cry = cry_of(web, who, nth=nth)
                    rows.append((f"cry k {who} {nth}", "never" if cry is None else str(cry)))
                self.assert_says(desk, rows)
                if web.rounds():
                    self.assert_refused(desk, NoCries, f"one k {who}")
                elif ends:
                    told = " ".join(f"{beat} {person}" for beat, person in one_cries(web, who))
                    self.assert_says(desk, [(f"one k {who}", told)])
                else:
                    self.assert_refused(desk, Endless, f"one k {who}", who=web.part(who)[0])
            self.assertEqual(desk.say("show k"), web_text(web))
            try:
                then = gone(web, 3)
            except Crowded:
                self.assert_refused(desk, Crowded, "go k 3", most=12)
                continue
            counts = counts_behind(web, 3)
            self.assert_says(desk, [("go k 3", " ".join(f"{who} {counts[who]}" for who in web.persons())),
                                    ("show k", web_text(then)), ("back k 1", "0"), ("show k", web_text(web))])

    def test_copy(self):
        desk = desk_of(k=LINE)
        desk.say("go k 5")
        self.assert_says(desk, [("copy k l", "ok"), ("sum l b", "1"), ("back l 0", "1"), ("go l 3", "a 0 b 0"), ("put l a 2", "ok"),
                                ("back k 0", "1"), ("back l 1", "2"), ("back k 1", "0"), ("sum k b", "0"), ("sum l b", "1"),
                                ("back l 2", "0"), ("show l", LINE)])
        # In the place of an elder one, and of itself.
        self.assert_says(desk, [("put l a 2", "ok"), ("copy k l", "ok"), ("show l", LINE), ("back l 0", "0"),
                                ("put k a 0", "ok"), ("copy k k", "ok"), ("back k 0", "1"), ("back k 1", "0"), ("show k", LINE)])

    def test_names_that_are_words_of_rows(self):
        desk = Desk()
        text = "cries\nperson person 1\nperson put 0\ntie cries put person 2\n"
        self.assert_says(desk, [("open open\n" + text, "ok"), ("copy open copy", "ok"), ("put open put 2", "ok"),
                                ("show copy", text), ("lay open tie put person 3", "ok"), ("cut open cries", "ok"),
                                ("show open", "cries\nperson person 1\nperson put 2\ntie tie put person 3\n")])

    def test_two_desks(self):
        one, other = desk_of(k=LINE), Desk()
        self.assert_refused(other, NoSuch, "show k", who="k")
        other.say("open k\n" + web_text(rounds()))
        other.say("go k 1")
        self.assert_says(one, [("show k", LINE), ("back k 0", "0")])
        self.assert_refused(Desk(), NoSuch, "show k", who="k")

    def test_by_name(self):
        self.assertEqual(desk_of(k=LINE).say(row="count k b 5"), "1")

    def test_asked_again(self):
        desk = desk_of(k=LINE)
        for row in ("show k", "sum k b", "count k b 5", "cry k b 1", "ends k b", "rate k b", "one k b", "back k 0"):
            self.assertEqual(desk.say(row), desk.say(row))


GOOD = ["copy k l", "put k a 1", "lay k new a b 4", "cut k t", "stretch k t 6", "come k c 1", "leave k b", "go k 1", "back k 0",
        "show k", "sum k a", "count k a 3", "cry k a 1", "ends k a", "rate k a", "one k a"]
NUMBERED = ["put k a {}", "lay k new a b {}", "stretch k t {}", "come k c {}", "go k {}", "back k {}", "count k a {}",
            "cry k a {}"]


class NoRows(Asks):
    def assert_none(self, row):
        """No row, whether there is such a keeper or not; and nothing is changed."""
        desk = desk_of(k=LINE)
        self.assert_refused(desk, NoRow, row)
        self.assert_says(desk, [("show k", LINE), ("back k 0", "0")])
        for name in ("c", "l", "new"):
            self.assert_refused(desk, NoSuch, f"show {name}", who=name)
        self.assert_refused(Desk(), NoRow, row)

    def test_good_ones(self):
        for row in GOOD + [form.format(0) for form in NUMBERED[3:7]]:
            self.assertIs(type(desk_of(k=LINE).say(row)), str)

    def test_words(self):
        for row in GOOD:
            words = row.split(" ")
            for bad in (row + " more", row + " 1", row + " ", " " + row, row + "\n", "\n" + row, row + "\n" + LINE,
                        row.replace(" ", "  ", 1), "  ".join(row.rsplit(" ", 1)), " ".join(words[:-1]), words[0],
                        row.replace(" ", "\n", 1), "\n".join(row.rsplit(" ", 1)), row.capitalize(), row.replace(" ", ""),
                        " ".join(words[:-1]) + " ", words[0] + " ", words[0] + "  ", "x" + row, words[0] + "s k a"):
                with self.subTest(row=bad):
                    self.assert_none(bad)

    def test_other_rows(self):
        for row in ("", " ", "\n", "k", "go", "log k", "beats k", "web k", "open", "open k", "open k ", "open k l", "quit", "ok",
                    "never", "put", "cries", LINE, "k go 1", "go 1 k", "GO k 1", "show k k", "part k a", "close k",
                    "levels k a", "above k a", "paper k a 5", "sum_of k a", "copied k l", "count k a", "go k", "back k"):
            with self.subTest(row=row):
                self.assert_none(row)

    def test_numbers(self):
        for form in NUMBERED:
            for number in ("00", "01", "007", "-1", "-0", "+1", "1.0", "1e1", "x", "a", "1a", "a1", "one", "1_0", "1,0", "0x1", "~",
                           "None", "True", "1-", "'1'", "00000000000000000000000000000000000000000000000000000"):
                with self.subTest(form=form, number=number):
                    self.assert_none(form.format(number))

    def test_open(self):
        for name in ("K", "k1", "kkkkkkkkk", "k-l", "1", "", " ", "k l", "k ", "K\n", "~"):
            self.assert_none(f"open {name}\n{LINE}")
        for text in ("", "\n", "cries\n", "cries", LINE[:-1], LINE + "\n", LINE + "x", "\n" + LINE, LINE.replace("a", "A"),
                     LINE.replace("5", "05"), LINE.replace("5", "1"), LINE.replace(" 5", ""), LINE * 2, LINE.replace(" ", "  "),
                     "rounds\n" + LINE[6:], "cries\nperson a 3\n", "open k\n" + LINE):
            self.assert_none("open k\n" + text)
            self.assert_none("open new\n" + text)
        self.assert_none("open k" + LINE)
        self.assert_none("open k " + LINE)
        self.assert_none("open  k\n" + LINE)
        self.assert_none(" open k\n" + LINE)
        self.assert_none("Open k\n" + LINE)

    def test_copy(self):
        for name in ("K", "k1", "kkkkkkkkk", "k-l", "1", "~"):
            self.assert_none(f"copy k {name}")
            self.assert_none(f"copy none {name}")
            self.assert_none(f"copy {name} {name}")

    def test_of_anything(self):
        desk = desk_of(k=LINE)
        for thing in anything() + [0, 1, b"show k", ["show k"], ("show", "k"), ["show", "k"], None, Odd(), cries(), desk]:
            self.assert_refused(desk, NoRow, thing)
        self.assertEqual(desk.say("show k"), LINE)


class NoSuchKeepers(Asks):
    def test_each_row(self):
        for row in GOOD:
            for name in ("none", "K", "k1", "~", "kkkkkkkkk", "1", "-"):
                words = row.split(" ")
                words[1] = name
                self.assert_refused(desk_of(k=LINE), NoSuch, " ".join(words), who=name)

    def test_ahead_of_what_the_stages_refuse(self):
        desk = desk_of(k=LINE)
        for row in ("put none gus 9", "lay none T gus gus 0", "cut none gus", "stretch none gus 0", "come none A 9",
                    "leave none gus", "back none 5", "sum none gus", "count none gus 3", "cry none gus 0", "ends none gus",
                    "rate none gus", "one none gus", "copy none k"):
            self.assert_refused(desk, NoSuch, row, who="none")
        self.assertEqual(desk.say("show k"), LINE)


class Stages(Asks):
    def test_as_the_stages_refuse(self):
        desk = desk_of(k=cries(), l=rounds(), m=Web(many_persons(8), many_ties(12)), n=Web([("a", 1)]),
                       o=Web([("a", 1), ("b", 0)], many_ties(12, 9)),
                       p=Web([("b", 0), ("a", 0)], [("s", "a", "b", 9, ((4, 1), (5, 2))), ("t", "b", "a", 9, ())]))
        shown = {name: desk.say(f"show {name}") for name in "klmnop"}
        for error, row, fields in (
                (NoSuch, "put k gus 5", {"who": "gus"}), (NoSuch, "put k Gus 1", {"who": "Gus"}),
                (NoSuch, "put k road 1", {"who": "road"}), (NoState, "put k ann 3", {}), (NoState, "put k ann " + "9" * 60, {}),
                (NoName, "lay k New gus gus 0", {"who": "New"}), (Taken, "lay k road gus gus 0", {"who": "road"}),
                (NoSuch, "lay k new gus ann 0", {"who": "gus"}), (NoSuch, "lay k new ann ~ 0", {"who": "~"}),
                (Same, "lay k new ann ann 0", {"who": "ann"}), (NoLength, "lay k new ann bob 1", {}),
                (NoLength, f"lay k new ann bob {LONGEST + 1}", {}), (NoLength, "lay l new x y 2", {}),
                (NoSuch, "cut k ann", {"who": "ann"}), (NoSuch, "stretch k gus 0", {"who": "gus"}),
                (NoLength, "stretch k road 0", {}), (Crying, "stretch k road 5", {"who": "road"}),
                (NoName, "come k Gus 9", {"who": "Gus"}), (Taken, "come k ann 9", {"who": "ann"}),
                (NoState, "come k gus 9", {}), (TooMany, "come m new 0", {"limit": 8}), (TooMany, "lay m new a b 2", {"limit": 12}),
                (NoSuch, "leave n b", {"who": "b"}), (Alone, "leave n a", {"who": "a"}), (Crowded, "go o 2", {"most": 12}),
                (NoBack, "back k 1", {}), (NoBack, "back k " + "9" * 60, {}), (NoSuch, "sum k gus", {"who": "gus"}),
                (NoSuch, "count k gus 1", {"who": "gus"}), (NoSuch, "cry k gus 0", {"who": "gus"}), (NoCount, "cry k ann 0", {}),
                (NoSuch, "ends k gus", {"who": "gus"}), (NoSuch, "rate k gus", {"who": "gus"}),
                (NoSuch, "one l gus", {"who": "gus"}), (NoCries, "one l x", {}), (NoCries, "one l w", {}),
                (Endless, "one p a", {"who": "b"})):
            with self.subTest(row=row):
                self.assert_refused(desk, error, row, **fields)
        for name in shown:
            self.assert_says(desk, [(f"show {name}", shown[name]), (f"back {name} 0", "0")])

    def test_no_text_is_never_told(self):
        self.assertFalse(issubclass(NoRow, NoText))
        with self.assertRaises(NoRow):
            Desk().say("open k\ncries\n")

    def test_two_hundred_deeds(self):
        desk = desk_of(k=rounds())
        for number in range(200):
            desk.say(f"put k x {number % 3}" if number % 2 else "go k 1")
        self.assertEqual(desk.say("back k 0"), "200")
        self.assertEqual(desk.say("back k 200"), "0")
        self.assertEqual(desk.say("show k"), web_text(rounds()))


if __name__ == "__main__":
    unittest.main()
