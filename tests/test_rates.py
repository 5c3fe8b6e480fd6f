"""[16] and [17], and of [4] what it says of rates."""

import random
import unittest
from fractions import Fraction

from parts_plain import all_rings, ending_rings, person_stops, trees
from plain import LETTERS, some_webs, told_beats
from samples import Odd, anything, cries, rounds
from test_far import long_webs
from test_sums import about, rows_of

from crywalks.counts import count_behind, counts_behind
from crywalks.errors import Crowded, NoSuch
from crywalks.far import gone
from crywalks.fractions import is_fraction, minus, plus
from crywalks.levels import levels_or_ring
from crywalks.rates import above_of, do_hold, rate_of
from crywalks.walks import ring_read
from crywalks.webs import LONGEST, Web
from crywalks.webtexts import web_text

FAR = 10 ** 59 + 7


def worth(told):
    return Fraction(*told)


def rate_of_ring(web, ring):
    length, turn = ring_read(web, ring)
    return Fraction(turn, length)


def small_webs(seed):
    return some_webs(seed, 50) + trees(seed, 10) + ending_rings(seed, 10)


class Rates(unittest.TestCase):
    def assert_right(self, web, part):
        """The rate is that of the best of all rings, the ring has it, the slopes hold by it; tells the rate."""
        best = max([rate_of_ring(web, ring) for ring in all_rings(web, part)], default=Fraction(0))
        for person in part:
            told = rate_of(web, person)
            self.assertEqual((type(told), len(told)), (tuple, 3))
            rate, ring, slopes = told
            self.assertTrue(is_fraction(rate))
            self.assertEqual(worth(rate), best)
            self.assertEqual(slopes[part[0]], (0, 1))
            self.assertEqual(sorted(slopes), sorted(part))
            self.assert_slopes(web, part, best, slopes)
            self.assertIs(do_hold(web, rate, slopes), True)
            if len(part) == 1:
                self.assertEqual(told, ((0, 1), None, {person: (0, 1)}))
            else:
                self.assertEqual(rate_of_ring(web, ring), best)
                self.assertTrue(set(person_stops(web, ring)) <= set(part))
        return best

    def assert_slopes(self, web, part, rate, slopes):
        for ring in all_rings(web, part):
            for piece in ring:
                one, other = web.ends(piece[0])
                begin, end = (one, other) if piece[1] == 0 else (other, one)
                turn, length = Fraction(turn_of(web, piece)), abs(piece[1] - piece[2])
                self.assertLessEqual(turn, rate * length + worth(slopes[end]) - worth(slopes[begin]))

    def test_against_all_rings(self):
        rates = [self.assert_right(web, part) for web in small_webs(161) for part in web.parts()]
        self.assertGreater(len([rate for rate in rates if rate > 0]), 20)
        self.assertGreater(len({rate for rate in rates if rate > 0}), 10)
        self.assertGreater(len([rate for rate in rates if rate == 0]), 20)
        self.assertEqual((min(rates), max(rates)), (0, 1))

    def test_at_most_a_third(self):
        for web in small_webs(162):
            for person in web.persons():
                self.assertLessEqual(worth(rate_of(web, person)[0]), 1 if web.rounds() else Fraction(1, 3))
        # A ring of six, two cries: each person, and each hearer, cries each third beat.
        web = Web([("a", 1), ("b", 1)], [("s", "a", "b", 3, ((1, 2),)), ("t", "b", "a", 3, ((1, 2),))])
        self.assertEqual(rate_of(web, "b")[0], (1, 3))

    def test_long_ties(self):
        for web, scale in long_webs(163, 40):
            for part in web.parts():
                self.assert_right(web, part)
        web = Web([("a", 0), ("b", 0)], [("s", "a", "b", LONGEST, ((1, 2), (2, 1))), ("t", "b", "a", LONGEST - 1, ())])
        rate, ring, slopes = rate_of(web, "a")
        self.assertEqual(rate, (1, 2 * LONGEST - 1))
        self.assertEqual(ring_read(web, ring), (2 * LONGEST - 1, 1))

    def test_the_shorter_of_two_rings(self):
        web = Web([("a", 0), ("b", 0)], [("s", "a", "b", 9, ((1, 2), (2, 1))), ("t", "b", "a", 40, ()),
                                         ("u", "a", "b", 30, ()), ("v", "b", "a", 20, ((5, 2), (6, 1)))])
        # Round by s and v twice as much turn in 29 steps; by s and u once in 39, by v and u once in 50.
        self.assertEqual(rate_of(web, "b")[0], (2, 29))

    def test_most_persons_and_ties(self):
        dice = random.Random(164)
        for _ in range(6):
            ties = [("t" + LETTERS[at], LETTERS[at], LETTERS[(at + 1) % 8], dice.randint(LONGEST // 9, LONGEST), ())
                    for at in range(8)]
            ties += [("u" + LETTERS[at], *dice.sample(LETTERS[:8], 2), dice.randint(4, LONGEST), ()) for at in range(4)]
            for at in range(6):
                place = dice.randint(1, ties[at][3] - 2)
                ties[at] = ties[at][:4] + (dice.choice((((place, 1), (place + 1, 2)), ((place, 2), (place + 1, 1)))),)
            self.assert_right(Web([(name, dice.choice((0, 1, 2))) for name in LETTERS[:8]], ties), list(LETTERS[:8]))

    def test_just_where_it_ends(self):
        for web in small_webs(165):
            for person in web.persons():
                ends = levels_or_ring(web, person)[0] == "levels"
                self.assertIs(rate_of(web, person)[0] == (0, 1), ends)

    def test_one_alone(self):
        for rounded in (False, True):
            for state in (0, 1, 2):
                web = Web([("a", state), ("b", 1)], rounds=rounded)
                self.assertEqual(rate_of(web, "a"), ((0, 1), None, {"a": (0, 1)}))
                self.assertEqual(above_of(web, "a"), ((0, 1), 0))

    def test_the_first_of_the_part(self):
        web = Web([("x", 1), ("b", 0), ("a", 1)], [("t", "a", "b", 4, ())])
        for person in "ab":
            rate, ring, slopes = rate_of(web, person)
            self.assertEqual((rate, slopes["b"], sorted(slopes)), ((0, 1), (0, 1), ["a", "b"]))
            self.assertEqual(ring_read(web, ring)[1], 0)


def turn_of(web, piece):
    """The turn of a whole tie, by a walk there and a count of what is told on it."""
    tie, start, goal = piece
    one, other = web.ends(tie)
    row = [0] * (web.length(tie) + 1) if web.length(tie) < 100 else None
    if row is None:
        told = [(0, web.state(one)), *web.hearers(tie), (web.length(tie), web.state(other))]
        row = []
        for (place, state), (then, _) in zip(told, told[1:]):
            row += [state] + ([0] if then - place > 1 else [])
        row.append(told[-1][1])
    else:
        row[0], row[-1] = web.state(one), web.state(other)
        for place, state in web.hearers(tie):
            row[place] = state
    if web.rounds():
        turn = [0, 1, -1][(row[1] - row[0]) % 3]
    else:
        turn = sum(((low, high) == (0, 1)) - ((low, high) == (1, 0)) for low, high in zip(row, row[1:]))
    return turn if start == 0 else -turn


class Hold(unittest.TestCase):
    def setUp(self):
        self.web = Web([("a", 0), ("b", 0), ("c", 0), ("d", 1)],
                       [("s", "a", "b", 5, ((1, 2), (2, 1))), ("t", "b", "a", 7, ()), ("u", "c", "b", 9, ())])

    def test_greater_ones_too_and_none_less(self):
        for web in small_webs(166):
            for part in web.parts():
                rate, ring, slopes = rate_of(web, part[0])
                for more in ((1, 10 ** 40), (1, 3), (10 ** 50, 1)):
                    self.assertIs(do_hold(web, plus(rate, more), slopes), True)
                    self.assertIs(do_hold(web, minus(rate, more), slopes), len(part) == 1)
                raised = {person: plus(slopes[person], (-5, 7)) for person in part}
                self.assertIs(do_hold(web, rate, raised), True)

    def test_none_by_a_lesser_rate(self):
        # Whatever the slopes, round the ring they come to nothing.
        dice = random.Random(167)
        for _ in range(300):
            slopes = {person: (dice.randint(-30, 30), 31) for person in "abc"}
            self.assertIs(do_hold(self.web, (1, 13), {who: told if is_fraction(told) else (0, 1)
                                                     for who, told in slopes.items()}), False)

    def test_each_way_about(self):
        # By a rate of 1/12 the ring leaves no choice between a and b; between b and c there's the leeway of u.
        rate, ring, slopes = rate_of(self.web, "c")
        self.assertEqual(rate, (1, 12))
        free = minus(slopes["b"], slopes["a"])
        for more in ((1, 12), (-1, 12), (1, 10 ** 40), (-1, 10 ** 40)):
            for slope in (slopes["c"], plus(slopes["c"], more)):
                self.assertIs(do_hold(self.web, rate, {**slopes, "b": plus(slopes["b"], more), "c": slope}), False)
        for more, due in (((0, 1), True), ((9, 12), True), ((-9, 12), True), ((10, 12), False), ((-10, 12), False)):
            by = (worth(free) + Fraction(*more))
            told = {"a": (0, 1), "b": free, "c": (by.numerator, by.denominator)}
            self.assertIs(do_hold(self.web, rate, told), due)

    def test_each_tie_each_way(self):
        for flip in (False, True):
            for one, other in ((0, 1), (1, 0)):
                web = Web([("a", one), ("b", other)], [("t", *("ba" if flip else "ab"), 4, ())])
                for upper in range(-8, 9):
                    # Up by 1 from the still one to the crier: 4 times the rate is the leeway.
                    rise = Fraction(upper, 8) if other else -Fraction(upper, 8)
                    slope = Fraction(upper, 8)
                    for rate in ((0, 1), (1, 16), (1, 8), (1, 2)):
                        due = 1 <= 4 * worth(rate) + rise and -1 <= 4 * worth(rate) - rise
                        told = {"a": (0, 1), "b": (slope.numerator, slope.denominator)}
                        self.assertIs(do_hold(web, rate, told), due)

    def test_one_without_ties(self):
        for rate in ((0, 1), (-5, 1), (7, 3), (-(10 ** 58), 3)):
            for slope in ((0, 1), (9, 1), (-9, 2)):
                self.assertIs(do_hold(self.web, rate, {"d": slope}), True)
                self.assertIs(do_hold(rounds(), rate, {"w": slope}), True)

    def test_no_slopes(self):
        rate, ring, good = rate_of(self.web, "a")
        self.assertIs(do_hold(self.web, rate, good), True)
        a, b, c = good["a"], good["b"], good["c"]
        for thing in ({}, {"a": a}, {"a": a, "b": b}, {"b": b, "c": c}, {**good, "d": (0, 1)}, {**good, "e": (0, 1)},
                      {"a": a, "b": b, "d": c}, {"a": a, "b": b, "e": c}, {**good, "a": 0}, {**good, "a": [0, 1]},
                      {**good, "a": (0, 2)}, {**good, "a": (False, 1)}, {**good, "a": (0, True)}, {**good, "a": "0"},
                      {**good, "a": None}, {**good, "a": Odd()}, {**good, "a": (Odd(), 1)}, {**good, ("s", 1): (0, 1)},
                      {"d": 0}, {"d": None}, {"d": (2, 4)}, {"d": True}, {None: (0, 1)}, {"d": (0, 1), 0: (0, 1)},
                      list(good.items()), list(good), tuple(good.items()), "abc", (rate, ring, good), Odd()):
            self.assertIs(do_hold(self.web, rate, thing), False)
            self.assertIs(do_hold(self.web, (10 ** 40, 1), thing), False)

    def test_no_rate(self):
        good = rate_of(self.web, "a")[2]
        for thing in (0, 1, True, None, "1/3", [1, 3], (1,), (1, 3, 1), (2, 6), (0, 2), (1, 0), (1, -3), (True, 1), (1, True),
                      ("1", 3), (1, None), {1: 3}, Odd(), (Odd(), 3), good, ((1, 3), 1)):
            for slopes in (good, {"d": (0, 1)}):
                self.assertIs(do_hold(self.web, thing, slopes), False)
        self.assertIs(do_hold(self.web, (1, 3), good), True)

    def test_of_anything(self):
        for web in (self.web, cries(), rounds()):
            for thing in anything():
                for other in anything() + [{"d": (0, 1)}, {"w": (0, 1)}]:
                    self.assertIs(do_hold(web, thing, other), False)
                self.assertIs(do_hold(web, (0, 1), thing), False)

    def test_what_is_handed_in_stays(self):
        rate, ring, slopes = rate_of(self.web, "a")
        before = dict(slopes)
        do_hold(self.web, rate, slopes)
        self.assertEqual(slopes, before)


class Above(unittest.TestCase):
    def test_against_counts(self):
        seen = 0
        for web in small_webs(171):
            many = 2 * sum(web.length(tie) for tie in web.ties()) + 3
            rows = told_beats(web, many)
            for person in web.persons():
                rate = worth(rate_of(web, person)[0])
                over = [rows[beats][0][person] - rate * beats for beats in range(many + 1)]
                told = above_of(web, person)
                with self.subTest(web=web, person=person):
                    self.assertEqual((type(told), len(told)), (tuple, 2))
                    self.assertTrue(is_fraction(told[0]))
                    self.assertEqual((worth(told[0]), told[1]), (max(over), over.index(max(over))))
                    seen += told[1] > 0
        self.assertGreater(seen, 60)

    def test_long_ties(self):
        seen = 0
        for web, scale in long_webs(172, 30):
            for person in web.persons():
                rate = worth(rate_of(web, person)[0])
                above, beats = above_of(web, person)
                self.assertEqual(count_behind(web, person, beats) - rate * beats, worth(above))
                seen += beats > scale
                if beats > 0:
                    self.assertLess(count_behind(web, person, beats - 1) - rate * (beats - 1), worth(above))
                for more in (0, 1, beats // 2, beats + 1, 3 * beats + scale, scale ** 2, FAR):
                    self.assertLessEqual(count_behind(web, person, more) - rate * more, worth(above))
        self.assertGreater(seen, 20)

    def test_so_many_times_as_long(self):
        for web in small_webs(173):
            if not web.rounds():
                persons, ties = rows_of(web)
                base = Web(persons, [tie[:4] + ((),) for tie in ties])
                for times in (2, 10 ** 29):
                    longer = Web(persons, [tie[:3] + (tie[3] * times, ()) for tie in ties])
                    for person in web.persons():
                        above, beats = above_of(base, person)
                        self.assertEqual(above_of(longer, person), (above, beats * times))

    def test_by_hand(self):
        web = Web([("a", 1), ("b", 0)], [("t", "a", "b", LONGEST, ())])
        self.assertEqual(above_of(web, "a"), ((0, 1), 0))
        self.assertEqual(above_of(web, "b"), ((1, 1), LONGEST))
        # Never above: each beat sets each of these.
        for person in "xyz":
            self.assertEqual(above_of(rounds(), person), ((0, 1), 0))
        ring = Web([("a", 0), ("b", 0)], [("s", "a", "b", LONGEST, ((1, 2), (2, 1))), ("t", "b", "a", LONGEST, ())])
        self.assertEqual(above_of(ring, "b"), ((LONGEST + 2, 2 * LONGEST) if LONGEST % 2 else
                                               ((LONGEST + 2) // 2, LONGEST), LONGEST - 2))
        self.assertEqual(above_of(ring, "a"), ((1, LONGEST), 2 * LONGEST - 2))

    def test_the_least_number_of_beats(self):
        # Two criers, one nearer: by a rate of 0 both walks turn by 1, and the shorter comes first.
        web = Web([("a", 0), ("b", 1), ("c", 1)], [("s", "a", "b", 9, ()), ("t", "a", "c", 5, ())])
        self.assertEqual(above_of(web, "a"), ((1, 1), 5))


class Promised(unittest.TestCase):
    def test_on_the_ring_the_rate_at_least(self):
        seen = 0
        for web in small_webs(174) + [web for web, scale in long_webs(174, 10)]:
            for part in web.parts():
                rate, ring, slopes = rate_of(web, part[0])
                if ring is None:
                    continue
                length, turn = ring_read(web, ring)
                for many in (1, 2, 3, 10 ** 20, 10 ** 28 + 1):
                    counts = counts_behind(web, many * length)
                    for person in person_stops(web, ring):
                        seen += turn > 0
                        self.assertGreaterEqual(counts[person], worth(rate) * many * length)
                        self.assertLessEqual(counts[person], worth(rate) * many * length + worth(above_of(web, person)[0]))
        self.assertGreater(seen, 100)

    def test_the_same_at_all_beats(self):
        for web in small_webs(175):
            for beats in (1, 2, 5, 10 ** 40):
                try:
                    then = gone(web, beats)
                except Crowded:
                    continue
                for person in web.persons():
                    self.assertEqual(rate_of(then, person)[0], rate_of(web, person)[0])

    def test_no_bearing(self):
        for web in small_webs(176):
            persons, ties = rows_of(web)
            names = {name: "z" * (8 - at) for at, name in enumerate(web.persons())}
            rows = [(names[name], state) for name, state in persons[::-1]]
            laid = [("no" + row[0], names[row[1]], names[row[2]], *row[3:]) for row in map(about, ties[::-1])]
            others = [Web(rows, laid, rounds=web.rounds())]
            if len(rows) < 7 and len(laid) < 11 and sum(len(row[4]) for row in laid) < 11:
                more = [("xy", "x", "y", 1, ())] if web.rounds() else [("xy", "x", "y", 9, ((3, 1), (4, 2))),
                                                                     ("yx", "y", "x", 2, ())]
                others.append(Web([("x", 1), ("y", 0)] + rows, more + laid, rounds=web.rounds()))
            for other in others:
                for person in web.persons():
                    self.assertEqual(rate_of(web, person)[0], rate_of(other, names[person])[0])
                    self.assertEqual(above_of(web, person), above_of(other, names[person]))


class Asked(unittest.TestCase):
    def test_no_such(self):
        for web in (cries(), rounds()):
            for thing in anything() + ["gus", "road", "xy", ("road", 1), Odd()]:
                for ask in (rate_of, above_of):
                    with self.assertRaises(NoSuch) as caught:
                        ask(web, thing)
                    self.assertIs(caught.exception.who, thing)

    def test_by_name(self):
        self.assertEqual(rate_of(person="x", web=rounds()), rate_of(rounds(), "x"))
        self.assertEqual(above_of(person="x", web=rounds()), above_of(rounds(), "x"))
        self.assertIs(do_hold(thing={"w": (5, 1)}, rate=(0, 1), web=rounds()), True)

    def test_own_and_unchanged(self):
        for web in (cries(), rounds()):
            text = web_text(web)
            for person in web.persons():
                due = rate_of(web, person)
                rate, ring, slopes = rate_of(web, person)
                slopes.clear()
                if ring is not None:
                    ring.clear()
                self.assertEqual(rate_of(web, person), due)
                above_of(web, person)
            self.assertEqual(web_text(web), text)


if __name__ == "__main__":
    unittest.main()
