"""[14], and of [4] what it says of levels: parts that end have levels, those that don't a ring."""

import unittest

from parts_plain import beats_enough, ending_rings, goes_on, spots_of, trees
from plain import Plain, some_webs, told_beats
from samples import Odd, anything, cries, rounds
from test_sums import about, rows_of

from crywalks.counts import counts_behind
from crywalks.ends import does_end
from crywalks.errors import Crowded, NoSuch
from crywalks.far import gone
from crywalks.levels import are_levels, levels_or_ring
from crywalks.walks import ring_read, turn_along
from crywalks.webs import LONGEST, Web
from crywalks.webtexts import web_text

FAR = 10 ** 59 + 7


def pair(one, other, *ties, rounded=False):
    """Two persons, with states, and ties (length, hearers) between them."""
    return Web([("a", one), ("b", other)],
               [("t" + "abcdefgh"[at], "a", "b", length, told) for at, (length, told) in enumerate(ties)], rounds=rounded)


class EachPart(unittest.TestCase):
    def assert_right(self, web):
        """Each part has levels or a ring, as single beats show; tells how many do end, and how many don't."""
        seen = [0, 0]
        states = Plain(web).states
        for part in web.parts():
            on = goes_on(web, states, spots_of(web, part))
            seen[on] += 1
            for person in part:
                told = levels_or_ring(web, person)
                with self.subTest(web=web, person=person):
                    self.assertIs(type(told), tuple)
                    self.assertEqual((told[0], len(told)), ("ring" if on else "levels", 2))
                    self.assertIs(does_end(web, person), not on)
                    if on:
                        self.assertGreater(ring_read(web, told[1])[1], 0)
                        self.assertIs(type(told[1]), list)
                        self.assertTrue({web.ends(tie)[0] for tie, start, goal in told[1]} <= set(part))
                    else:
                        self.assert_levels(web, part, told[1])
        return seen

    def assert_levels(self, web, part, levels):
        self.assertEqual(sorted(levels), sorted(part))
        self.assertEqual(levels[part[0]], 0)
        self.assertEqual({type(level) for level in levels.values()}, {int})
        for tie in web.ties():
            one, other = web.ends(tie)
            if one in part:
                self.assertEqual(levels[other] - levels[one], turn_along(web, tie, 0, web.length(tie)))
        self.assertIs(are_levels(web, levels), True)

    def test_against_single_beats(self):
        seen = [self.assert_right(web) for web in some_webs(141, 60) + trees(141, 40) + ending_rings(141, 20)]
        self.assertGreater(sum(ended for ended, on in seen), 80)
        self.assertGreater(sum(on for ended, on in seen), 30)

    def test_one_alone(self):
        for rounded in (False, True):
            for state in (0, 1, 2):
                web = Web([("b", state), ("a", 1)], rounds=rounded)
                self.assertEqual(levels_or_ring(web, "b"), ("levels", {"b": 0}))
                self.assertEqual(levels_or_ring(web, "a"), ("levels", {"a": 0}))

    def test_several_ties_between_two(self):
        self.assertEqual(levels_or_ring(pair(0, 1, (2, ()), (9, ()), (LONGEST, ())), "b"), ("levels", {"a": 0, "b": 1}))
        # One way goes up by 1, the other doesn't: the hoarse hearer lets no cry back.
        web = pair(0, 1, (5, ()), (3, ((2, 2),)))
        kind, ring = levels_or_ring(web, "a")
        self.assertEqual((kind, sorted(ring)), ("ring", sorted([("ta", 0, 5), ("tb", 3, 0)])))
        self.assertEqual(ring_read(web, ring), (8, 1))
        # In rounds several ties between the same two turn alike.
        self.assertEqual(levels_or_ring(pair(0, 2, (1, ()), (1, ()), rounded=True), "a"), ("levels", {"a": 0, "b": -1}))

    def test_told_hearers(self):
        self.assertEqual(levels_or_ring(pair(0, 0, (9, ((2, 2), (3, 1), (6, 1), (7, 2)))), "b"), ("levels", {"a": 0, "b": 0}))
        self.assertEqual(levels_or_ring(pair(0, 0, (9, ((2, 1), (3, 2), (6, 1), (7, 2)))), "b"), ("levels", {"a": 0, "b": 2}))
        web = pair(0, 0, (LONGEST, ((LONGEST - 3, 2), (LONGEST - 2, 1))), (LONGEST, ()))
        kind, ring = levels_or_ring(web, "b")
        self.assertEqual((kind, ring_read(web, ring)), ("ring", (2 * LONGEST, 1)))

    def test_rounds(self):
        kind, ring = levels_or_ring(rounds(), "z")
        self.assertEqual((kind, ring_read(rounds(), ring)), ("ring", (3, 3)))
        self.assertEqual(levels_or_ring(rounds(), "w"), ("levels", {"w": 0}))
        chain = Web([(name, state) for name, state in zip("abcde", (0, 1, 2, 0, 2))],
                    [(one + other, one, other, 1, ()) for one, other in zip("abcd", "bcde")], rounds=True)
        self.assertEqual(levels_or_ring(chain, "e"), ("levels", {"a": 0, "b": 1, "c": 2, "d": 3, "e": 2}))

    def test_the_first_of_the_part_has_none(self):
        web = Web([("x", 1), ("b", 0), ("a", 1)], [("t", "a", "b", 4, ())])
        for person in "ab":
            self.assertEqual(levels_or_ring(web, person), ("levels", {"b": 0, "a": 1}))
        self.assertEqual(levels_or_ring(web, "x"), ("levels", {"x": 0}))


class Gone(unittest.TestCase):
    def test_raised_by_counts(self):
        for web in trees(142, 30) + ending_rings(142, 15) + [web for web in some_webs(142, 40) if web.rounds()]:
            rows = told_beats(web, beats_enough(web))
            for part in web.parts():
                kind, levels = levels_or_ring(web, part[0])
                if kind == "ring":
                    continue
                for beats in (1, 2, 3, 7, len(rows) - 1, FAR):
                    counts = counts_behind(web, beats)
                    try:
                        then = gone(web, beats)
                    except Crowded:
                        continue
                    self.assertIs(are_levels(then, {person: levels[person] + counts[person] for person in part}), True)
                    counts[part[-1]] += 1
                    raised = {person: levels[person] + counts[person] for person in part}
                    self.assertIs(are_levels(then, raised), len(part) == 1)

    def test_all_as_high_in_the_end(self):
        for web in trees(143, 30):
            counts = counts_behind(web, FAR)
            for part in web.parts():
                levels = levels_or_ring(web, part[0])[1]
                self.assertEqual(len({levels[person] + counts[person] for person in part}), 1)


class AreLevels(unittest.TestCase):
    def setUp(self):
        self.web = Web([("a", 0), ("b", 1), ("c", 0), ("d", 1)], [("s", "a", "b", 5, ()), ("t", "c", "b", 7, ((3, 1), (4, 2)))])

    def test_levels(self):
        for thing in ({"a": 0, "b": 1, "c": -1}, {"c": -1, "b": 1, "a": 0}, {"d": 0}, {"d": -7}, {"d": 10 ** 59},
                      {"a": 5, "b": 6, "c": 4}, {"a": -(10 ** 58), "b": 1 - 10 ** 58, "c": -1 - 10 ** 58}):
            with self.subTest(thing=thing):
                before = dict(thing)
                self.assertIs(are_levels(self.web, thing), True)
                self.assertEqual(thing, before)

    def test_no_levels(self):
        for thing in ({}, {"a": 0}, {"a": 0, "b": 1}, {"a": 0, "b": 1, "c": -1, "d": 0}, {"a": 0, "b": 1, "c": -1, "e": 0},
                      {"a": 0, "b": 1, "e": -1}, {"a": 0, "b": 1, "d": -1}, {"a": 0, "b": 1, "c": 0}, {"a": 0, "b": 0, "c": -2},
                      {"a": 1, "b": 1, "c": -1}, {"a": False, "b": 1, "c": -1}, {"a": 0, "b": True, "c": -1},
                      {"a": 0, "b": "1", "c": -1}, {"a": None, "b": 1, "c": -1}, {"d": True}, {"d": False}, {"d": "0"},
                      {"d": None}, {"d": [0]}, {"d": Odd()}, {"e": 0}, {"s": 0}, {("s", 1): 0}, {0: 0}, {None: 0}, {b"d": 0},
                      {"d": 0, None: 0}, {None: 0, "d": 0}, {"d": 0, ("s", 1): 0}, {"d": (0, 1)},
                      [("d", 0)], (("d", 0),), [("a", 0), ("b", 1), ("c", -1)], ["d"], {"d"}, "d", ("levels", {"d": 0})):
            self.assertIs(are_levels(self.web, thing), False)

    def test_of_anything(self):
        for web in (cries(), rounds(), self.web):
            for thing in anything() + [Odd(), web, {"x": Odd()}, {"bob": Odd(), "ann": Odd(), "fay": Odd()}]:
                self.assertIs(are_levels(web, thing), False)

    def test_none_where_a_ring_turns(self):
        web = pair(0, 1, (5, ()), (3, ((2, 2),)))
        for level in range(-3, 4):
            self.assertIs(are_levels(web, {"a": 0, "b": level}), False)
        for levels in ((0, 1, 2), (0, 0, 0), (0, 1, -1)):
            self.assertIs(are_levels(rounds(), dict(zip("xyz", levels))), False)

    def test_each_level_otherwise(self):
        for web in trees(144, 30) + ending_rings(144, 10):
            for part in web.parts():
                levels = levels_or_ring(web, part[0])[1]
                self.assertIs(are_levels(web, {person: levels[person] - 9 for person in part}), True)
                if len(part) > 1:
                    for person in part:
                        for more in (-1, 1):
                            self.assertIs(are_levels(web, {**levels, person: levels[person] + more}), False)
                        self.assertIs(are_levels(web, {who: levels[who] for who in part if who != person}), False)


class NoBearing(unittest.TestCase):
    def test_order_ends_and_names(self):
        for web in some_webs(145, 40) + trees(145, 20):
            persons, ties = rows_of(web)
            names = {name: "z" * (8 - at) for at, name in enumerate(web.persons())}
            other = Web([(names[name], state) for name, state in persons[::-1]],
                        [("no" + row[0], names[row[1]], names[row[2]], *row[3:]) for row in map(about, ties[::-1])],
                        rounds=web.rounds())
            for person in web.persons():
                kind, told = levels_or_ring(web, person)
                there, levels = levels_or_ring(other, names[person])
                self.assertEqual(kind, there)
                if kind == "levels":
                    low = levels[names[web.part(person)[0]]]
                    self.assertEqual(told, {who: levels[names[who]] - low for who in told})

    def test_another_part(self):
        for web in trees(146, 20):
            persons, ties = rows_of(web)
            if sum(len(tie[4]) for tie in ties) > 10:
                continue
            more = [("xy", "x", "y", 9, ((3, 1), (4, 2))), ("yx", "y", "x", 2, ())]
            other = Web([("x", 1), ("y", 0)] + persons, more + ties)
            self.assertEqual(levels_or_ring(other, "y")[0], "ring")
            for person in web.persons():
                self.assertEqual(levels_or_ring(other, person), levels_or_ring(web, person))


class Asked(unittest.TestCase):
    def test_no_such(self):
        for web in (cries(), rounds()):
            for thing in anything() + ["gus", "road", "xy", ("road", 1), Odd()]:
                for ask in (levels_or_ring, does_end):
                    with self.assertRaises(NoSuch) as caught:
                        ask(web, thing)
                    self.assertIs(caught.exception.who, thing)

    def test_by_name(self):
        self.assertEqual(levels_or_ring(person="w", web=rounds()), ("levels", {"w": 0}))
        self.assertIs(are_levels(thing={"w": 3}, web=rounds()), True)
        self.assertIs(does_end(person="w", web=rounds()), True)
        self.assertIs(does_end(person="x", web=rounds()), False)

    def test_own_and_unchanged(self):
        for web in (cries(), rounds(), pair(0, 1, (5, ()))):
            text = web_text(web)
            for person in web.persons():
                due = levels_or_ring(web, person)[1].copy()
                told = levels_or_ring(web, person)[1]
                self.assertEqual(told, due)
                told.clear()
                self.assertEqual(levels_or_ring(web, person)[1], due)
            self.assertEqual(web_text(web), text)


if __name__ == "__main__":
    unittest.main()
