"""[18], and of [4] that more never hurts: what may be done to a web, and what is refused."""

import random
import unittest

from plain import LETTERS, some_webs
from samples import CRIES_PERSONS, CRIES_TIES, Odd, anything, cries, many_persons, many_ties, rounds
from test_sums import rows_of

from crywalks.counts import counts_behind, cry_of
from crywalks.deeds import with_length, with_person, with_state, with_tie, without_person, without_tie
from crywalks.errors import Alone, Crying, NoLength, NoName, NoState, NoSuch, Same, Taken, TooMany
from crywalks.fractions import is_less
from crywalks.levels import are_levels, levels_or_ring
from crywalks.rates import above_of, do_hold, rate_of
from crywalks.webs import LONGEST, Web, is_name
from crywalks.webtexts import web_text

FAR = 10 ** 59 + 7
NO_STATES = [3, -1, True, False, None, "0", "1", b"1", [0], (0,), {0: 0}, 10 ** 59, "", Odd(), object(), int]
NO_LENGTHS = [True, False, 0, -2, "2", b"2", [2], (2,), {2: 2}, LONGEST + 1, 10 ** 59, "", Odd(), object(), int]


def no_names():
    return anything() + ["annnnnnnn", "Ann", "a b", "a1", ("road", 1), 0, 7]


def no_persons(web):
    return anything() + ["gus", ("road", 1), *web.ties()]


def full_persons(rounded):
    return Web(many_persons(8), many_ties(3, 1 if rounded else 5), rounds=rounded)


def full_ties(rounded):
    return Web(many_persons(3), many_ties(12, 1 if rounded else 5), rounds=rounded)


class Asks(unittest.TestCase):
    def refused(self, error, field, worth, ask):
        """Just that error, with that worth in that field, if it has one."""
        with self.assertRaises(error) as caught:
            ask()
        self.assertIs(type(caught.exception), error)
        if field == "who":
            self.assertIs(caught.exception.who, worth)
        elif field is not None:
            self.assertEqual(getattr(caught.exception, field), worth)

    def same_rows(self, web, persons, ties):
        """The web is of just these rows, in order."""
        self.assertIs(type(web), Web)
        self.assertEqual(rows_of(web), (persons, ties))


class Done(Asks):
    def test_put(self):
        for person, state in CRIES_PERSONS:
            for then in (0, 1, 2):
                persons = [(name, then if name == person else now) for name, now in CRIES_PERSONS]
                self.same_rows(with_state(cries(), person, then), persons, CRIES_TIES)
        web = with_state(rounds(), "y", 2)
        self.assertEqual(web, Web([("x", 0), ("y", 2), ("z", 2), ("w", 0)], rows_of(rounds())[1], rounds=True))

    def test_laid(self):
        for length, due in ((None, 2), (2, 2), (3, 3), (LONGEST, LONGEST)):
            web = with_tie(cries(), "new", "eve", "bob", length=length)
            self.same_rows(web, CRIES_PERSONS, CRIES_TIES + [("new", "eve", "bob", due, ())])
        self.assertEqual(with_tie(cries(), "new", "eve", "bob"), with_tie(cries(), "new", "eve", "bob", length=2))
        persons, ties = rows_of(rounds())
        due = Web(persons, ties + [("new", "w", "x", 1, ())], rounds=True)
        for web in (with_tie(rounds(), "new", "w", "x"), with_tie(rounds(), "new", "w", "x", length=None),
                    with_tie(rounds(), "new", "w", "x", length=1)):
            self.assertEqual(web, due)

    def test_laid_between_the_same_two(self):
        web = with_tie(with_tie(cries(), "more", "ann", "bob"), "again", "bob", "ann", length=9)
        self.assertEqual(web.beside("ann"), ["road", "path", "more", "again"])

    def test_cut(self):
        for at, row in enumerate(CRIES_TIES):
            self.same_rows(without_tie(cries(), row[0]), CRIES_PERSONS, CRIES_TIES[:at] + CRIES_TIES[at + 1:])
        persons, ties = rows_of(rounds())
        self.assertEqual(without_tie(rounds(), "yz"), Web(persons, [ties[0], ties[2]], rounds=True))

    def test_stretched(self):
        for length in (2, 3, 9, LONGEST):
            ties = [CRIES_TIES[0], ("path", "bob", "ann", length, ()), *CRIES_TIES[2:]]
            self.same_rows(with_length(cries(), "path", length), CRIES_PERSONS, ties)
        self.assertEqual(with_length(cries(), "path", 2), cries())
        self.assertEqual(with_length(rounds(), "yz", 1), rounds())

    def test_come(self):
        for state in (0, 1, 2):
            self.same_rows(with_person(cries(), "gus", state=state), CRIES_PERSONS + [("gus", state)], CRIES_TIES)
        self.same_rows(with_person(cries(), "gus"), CRIES_PERSONS + [("gus", 0)], CRIES_TIES)
        persons, ties = rows_of(rounds())
        self.assertEqual(with_person(rounds(), "v", state=2), Web(persons + [("v", 2)], ties, rounds=True))

    def test_leaves(self):
        for person, state in CRIES_PERSONS:
            self.same_rows(without_person(cries(), person), [row for row in CRIES_PERSONS if row[0] != person],
                           [row for row in CRIES_TIES if person not in row[1:3]])
        self.assertEqual(without_person(rounds(), "y"),
                         Web([("x", 0), ("z", 2), ("w", 0)], [("zx", "z", "x", 1, ())], rounds=True))
        self.assertEqual(without_person(Web([("a", 1), ("b", 2)]), "a"), Web([("b", 2)]))

    def test_up_to_the_limits(self):
        for rounded in (False, True):
            web = without_person(full_persons(rounded), "h")
            self.assertEqual(with_person(web, "h"), full_persons(rounded))
            web = without_tie(full_ties(rounded), "tiel")
            self.assertEqual(with_tie(web, "tiel", "a", "b", length=1 if rounded else 5), full_ties(rounded))

    def test_the_web_stays(self):
        for make in (cries, rounds):
            web = make()
            text = web_text(web)
            person, tie = web.persons()[1], web.ties()[1]
            told = [with_state(web, person, 2), with_tie(web, "new", *web.persons()[:2]), without_tie(web, tie),
                    with_length(web, tie, 1 if web.rounds() else 7), with_person(web, "new"), without_person(web, person)]
            for then in told:
                then.persons().clear()
                then.ties().clear()
            self.assertEqual(web, make())
            self.assertEqual(web_text(web), text)
            # What was told stands, too, whatever is done to it.
            texts = [web_text(then) for then in told]
            for then in told:
                with_state(then, then.persons()[0], 2)
                without_person(then, then.persons()[0])
            self.assertEqual([web_text(then) for then in told], texts)

    def test_by_name(self):
        web = cries()
        self.assertEqual(with_state(state=2, person="ann", web=web), with_state(web, "ann", 2))
        self.assertEqual(with_tie(length=7, other="bob", one="ann", name="new", web=web),
                         with_tie(web, "new", "ann", "bob", length=7))
        self.assertEqual(without_tie(tie="road", web=web), without_tie(web, "road"))
        self.assertEqual(with_length(length=7, tie="path", web=web), with_length(web, "path", 7))
        self.assertEqual(with_person(state=1, name="gus", web=web), with_person(web, "gus", state=1))
        self.assertEqual(without_person(person="ann", web=web), without_person(web, "ann"))

    def test_by_name_alone(self):
        with self.assertRaises(TypeError):
            with_tie(cries(), "new", "ann", "bob", 5)
        with self.assertRaises(TypeError):
            with_person(cries(), "gus", 1)


class Refused(Asks):
    def test_put(self):
        for web in (cries(), rounds()):
            for thing in no_persons(web):
                for state in (0, 3, Odd()):
                    self.refused(NoSuch, "who", thing, lambda: with_state(web, thing, state))
            for thing in NO_STATES + anything():
                self.refused(NoState, None, None, lambda: with_state(web, web.persons()[0], thing))

    def test_names(self):
        for web in (cries(), rounds(), full_persons(False), full_ties(True)):
            for thing in no_names():
                if not is_name(thing):
                    self.refused(NoName, "who", thing, lambda: with_tie(web, thing, *web.persons()[:2]))
                    self.refused(NoName, "who", thing, lambda: with_tie(web, thing, Odd(), Odd(), length=Odd()))
                    self.refused(NoName, "who", thing, lambda: with_person(web, thing))
                    self.refused(NoName, "who", thing, lambda: with_person(web, thing, state=Odd()))
            for name in web.persons() + web.ties():
                self.refused(Taken, "who", name, lambda: with_tie(web, name, *web.persons()[:2]))
                self.refused(Taken, "who", name, lambda: with_tie(web, name, "gus", "gus", length=0))
                self.refused(Taken, "who", name, lambda: with_person(web, name))
                self.refused(Taken, "who", name, lambda: with_person(web, name, state=True))

    def test_ends_of_a_tie(self):
        for web in (cries(), rounds(), full_ties(False)):
            good = web.persons()[0]
            for thing in no_persons(web):
                self.refused(NoSuch, "who", thing, lambda: with_tie(web, "new", thing, good))
                self.refused(NoSuch, "who", thing, lambda: with_tie(web, "new", good, thing, length=0))
                self.refused(NoSuch, "who", thing, lambda: with_tie(web, "new", thing, Odd()))
            for person in web.persons():
                self.refused(Same, "who", person, lambda: with_tie(web, "new", person, person))
                self.refused(Same, "who", person, lambda: with_tie(web, "new", person, person, length=Odd()))

    def test_lengths(self):
        for web, tie, more in ((cries(), "path", [1]), (rounds(), "yz", [2, 3, LONGEST]), (full_ties(False), "tiea", [1]),
                               (full_ties(True), "tiea", [2]), (cries(), "road", [1])):
            one, other = web.persons()[:2]
            for thing in NO_LENGTHS + more:
                self.refused(NoLength, None, None, lambda: with_tie(web, "new", one, other, length=thing))
                self.refused(NoLength, None, None, lambda: with_length(web, tie, thing))
            for thing in anything():
                self.refused(NoLength, None, None, lambda: with_length(web, tie, thing))
                if thing is not None:
                    self.refused(NoLength, None, None, lambda: with_tie(web, "new", one, other, length=thing))

    def test_states_of_who_comes(self):
        for web in (cries(), rounds(), full_persons(False)):
            for thing in NO_STATES + anything():
                self.refused(NoState, None, None, lambda: with_person(web, "new", state=thing))

    def test_ties(self):
        for web in (cries(), rounds()):
            for thing in anything() + ["gus", ("road", 1), *web.persons()]:
                self.refused(NoSuch, "who", thing, lambda: without_tie(web, thing))
                for length in (2, 1, 0, Odd()):
                    self.refused(NoSuch, "who", thing, lambda: with_length(web, thing, length))

    def test_crying(self):
        for tie in ("road", "way", "lane"):
            # Also to the length that it has.
            for length in (2, cries().length(tie), LONGEST):
                self.refused(Crying, "who", tie, lambda: with_length(cries(), tie, length))

    def test_hoarse_or_crying(self):
        for state in (1, 2):
            web = Web([("a", 0), ("b", 0)], [("s", "a", "b", 9, ((4, state),)), ("t", "a", "b", 9, ())])
            self.refused(Crying, "who", "s", lambda: with_length(web, "s", 12))
            self.assertEqual(with_length(web, "t", 12).length("t"), 12)

    def test_too_many(self):
        for rounded in (False, True):
            web = full_persons(rounded)
            for state in (0, 1, 2):
                self.refused(TooMany, "limit", 8, lambda: with_person(web, "new", state=state))
            self.assertEqual(len(with_tie(web, "new", "a", "h").ties()), 4)
            web = full_ties(rounded)
            for length in (None, 1 if rounded else 2):
                self.refused(TooMany, "limit", 12, lambda: with_tie(web, "new", "a", "b", length=length))
            self.assertEqual(len(with_person(web, "new")), 4)

    def test_alone(self):
        for rounded in (False, True):
            web = Web([("ann", 1)], rounds=rounded)
            self.refused(Alone, "who", "ann", lambda: without_person(web, "ann"))
            for thing in no_persons(web):
                self.refused(NoSuch, "who", thing, lambda: without_person(web, thing))

    def test_who_leaves(self):
        for web in (cries(), rounds()):
            for thing in no_persons(web):
                self.refused(NoSuch, "who", thing, lambda: without_person(web, thing))


class MoreNeverHurts(unittest.TestCase):
    BEATS = (0, 1, 2, 3, 5, 8, 13, 30, 100, FAR)

    def assert_no_less(self, web, then):
        for beats in self.BEATS:
            before, behind = counts_behind(web, beats), counts_behind(then, beats)
            for person in web.persons():
                self.assertGreaterEqual(behind[person], before[person])

    def test_laid_come_and_shorter(self):
        dice = random.Random(181)
        better = 0
        for web in some_webs(181, 40):
            told = [with_person(web, "new", state=dice.randint(0, 2))] if len(web) < 8 else []
            if len(web.ties()) < 12:
                one, other = dice.sample(web.persons(), 2)
                told.append(with_tie(web, "new", one, other, length=None if web.rounds() else dice.randint(2, 9)))
            for tie in web.ties():
                if not web.rounds() and not web.hearers(tie):
                    told.append(with_length(web, tie, dice.randint(2, web.length(tie))))
            for then in told:
                self.assert_no_less(web, then)
                better += counts_behind(web, FAR) != {who: counts_behind(then, FAR)[who] for who in web.persons()}
        self.assertGreater(better, 10)

    def test_come_changes_nothing(self):
        for web in some_webs(182, 30):
            if len(web) < 8:
                then = with_person(web, "new", state=1)
                for beats in self.BEATS:
                    self.assertEqual(counts_behind(then, beats), {**counts_behind(web, beats), "new": 0})

    def test_rates_rise(self):
        dice = random.Random(183)
        for web in some_webs(183, 40):
            if len(web.ties()) < 12:
                one, other = dice.sample(web.persons(), 2)
                then = with_tie(web, "new", one, other)
                for person in web.persons():
                    self.assertFalse(is_less(rate_of(then, person)[0], rate_of(web, person)[0]))

    def test_long_ties_made_shorter(self):
        web = Web([(name, int(name == "a")) for name in LETTERS[:3]],
                  [("s", "a", "b", LONGEST, ()), ("t", "b", "c", LONGEST, ()), ("u", "c", "a", LONGEST, ((5, 1), (6, 2)))])
        then = with_length(web, "t", 2)
        for person in "abc":
            for nth in (1, 2, 10 ** 20):
                before, behind = cry_of(web, person, nth=nth), cry_of(then, person, nth=nth)
                self.assertTrue(before is None or behind is not None and behind <= before)


class BehindDeeds(unittest.TestCase):
    """Levels, rates and above of webs behind deeds are those of webs made so."""

    def test_told_of_the_web_alone(self):
        for web in some_webs(184, 30):
            persons, ties = rows_of(web)
            person, tie = web.persons()[-1], web.ties()[0]
            told = [with_state(web, person, 1), without_tie(web, tie), without_person(web, person)]
            if len(ties) < 12:
                told.append(with_tie(web, "new", person, web.persons()[0]))
            for then in told:
                again = Web(*rows_of(then), rounds=web.rounds())
                for who in then.persons():
                    kind, levels = levels_or_ring(then, who)
                    self.assertEqual((kind, levels), levels_or_ring(again, who))
                    self.assertIs(are_levels(then, levels), kind == "levels")
                    rate, ring, slopes = rate_of(then, who)
                    self.assertEqual(rate, rate_of(again, who)[0])
                    self.assertIs(do_hold(then, rate, slopes), True)
                    self.assertEqual(above_of(then, who), above_of(again, who))


if __name__ == "__main__":
    unittest.main()
