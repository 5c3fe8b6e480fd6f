"""[20], and of [4] what holds behind deeds: keepers, with all that was done."""

import random
import unittest

from plain import cries_web, rounds_web, some_webs, told_beats
from samples import Odd, anything, cries, many_persons, many_ties, no_counts, rounds

from crywalks.counts import count_behind, counts_behind
from crywalks.deeds import with_length, with_person, with_state, with_tie, without_person, without_tie
from crywalks.errors import Alone, Crowded, Crying, NoBack, NoCount, NoLength, NoName, NoState, NoSuch, Same, Taken, TooMany
from crywalks.far import gone
from crywalks.fractions import is_fraction
from crywalks.keepers import Keeper
from crywalks.levels import are_levels, levels_or_ring
from crywalks.rates import above_of, do_hold, rate_of
from crywalks.webs import LONGEST, Web
from crywalks.webtexts import web_text

FAR = 10 ** 59 + 7
REFUSED = (Alone, Crowded, Crying, NoBack, NoCount, NoLength, NoName, NoState, NoSuch, Same, Taken, TooMany)


def burst():
    """One who cries, and twelve ties: two beats on it is crowded."""
    return Web([("a", 1), ("b", 0)], many_ties(12, 9))


def whole(keeper):
    """All that a keeper tells."""
    return (keeper.web(), keeper.beats(), keeper.log(), len(keeper),
            {person: keeper.sum_of(person) for person in keeper.web().persons()})


class Deeds(unittest.TestCase):
    def test_at_first(self):
        for web in (cries(), rounds()):
            self.assertEqual(whole(Keeper(web)), (web, 0, [], 0, {person: 0 for person in web.persons()}))
            self.assertIs(type(Keeper(web).web()), Web)

    def test_each_deed(self):
        for web in (cries(), rounds()):
            one, other = web.persons()[:2]
            tie = web.ties()[1]
            length = 1 if web.rounds() else 7
            default = 1 if web.rounds() else 2
            for do, log, then in (
                    (lambda keeper: keeper.put(one, 2), ("put", one, 2), with_state(web, one, 2)),
                    (lambda keeper: keeper.lay("new", one, other), ("lay", "new", one, other, default),
                     with_tie(web, "new", one, other)),
                    (lambda keeper: keeper.lay("new", one, other, length=None), ("lay", "new", one, other, default),
                     with_tie(web, "new", one, other)),
                    (lambda keeper: keeper.lay("new", other, one, length=length), ("lay", "new", other, one, length),
                     with_tie(web, "new", other, one, length=length)),
                    (lambda keeper: keeper.cut(tie), ("cut", tie), without_tie(web, tie)),
                    (lambda keeper: keeper.stretch(tie, length), ("stretch", tie, length), with_length(web, tie, length)),
                    (lambda keeper: keeper.come("new"), ("come", "new", 0), with_person(web, "new")),
                    (lambda keeper: keeper.come("new", state=2), ("come", "new", 2), with_person(web, "new", state=2)),
                    (lambda keeper: keeper.leave(other), ("leave", other), without_person(web, other))):
                keeper = Keeper(web)
                with self.subTest(log=log):
                    self.assertIsNone(do(keeper))
                    self.assertEqual(whole(keeper), (then, 0, [log], 1, {person: 0 for person in then.persons()}))
                    self.assertIs(type(keeper.log()[0]), tuple)
                    self.assertIsNone(keeper.back())
                    self.assertEqual(keeper, Keeper(web))

    def test_go(self):
        for web in some_webs(201, 24):
            rows = told_beats(web, 12)
            for beats in (0, 1, 2, 3, 7, 12):
                keeper = Keeper(web)
                due = {person: rows[beats][0][person] for person in web.persons()}
                if sum(len(told) for told in rows[beats][2].values()) > 12:
                    with self.assertRaises(Crowded) as caught:
                        keeper.go(beats)
                    self.assertEqual(caught.exception.most, 12)
                    self.assertEqual(whole(keeper), whole(Keeper(web)))
                else:
                    told = keeper.go(beats)
                    self.assertEqual(told, due)
                    self.assertEqual(list(told), web.persons())
                    self.assertEqual(whole(keeper), (gone(web, beats), beats, [("go", beats)], 1, due))
                    told.clear()
                    self.assertEqual(whole(keeper), (gone(web, beats), beats, [("go", beats)], 1, due))

    def test_one_by_default(self):
        keeper = Keeper(rounds())
        self.assertEqual(keeper.go(), {"x": 1, "y": 1, "z": 1, "w": 0})
        self.assertEqual((keeper.log(), keeper.beats(), keeper.web()), ([("go", 1)], 1, gone(rounds(), 1)))

    def test_goes_add_up(self):
        keeper = Keeper(rounds())
        for beats in (3, 0, 10 ** 58, 1, FAR):
            keeper.go(beats)
        total = 4 + 10 ** 58 + FAR
        self.assertEqual(keeper.beats(), total)
        self.assertEqual([keeper.sum_of(who) for who in "xyzw"], [total, total, total, 0])
        self.assertEqual(keeper.log(), [("go", 3), ("go", 0), ("go", 10 ** 58), ("go", 1), ("go", FAR)])
        self.assertEqual(keeper.web(), gone(rounds(), total))

    def test_two_parts_and_two_goes(self):
        for web in some_webs(202, 30):
            keeper = Keeper(web)
            done = 0
            for beats in (2, 5, 10 ** 40, 1):
                try:
                    keeper.go(beats)
                    done += beats
                except Crowded:
                    pass
            self.assertEqual(keeper.beats(), done)
            self.assertEqual({who: keeper.sum_of(who) for who in web.persons()}, counts_behind(web, done))
            self.assertEqual(keeper.web(), gone(web, done))

    def test_parts_go_each_by_itself(self):
        seen = 0
        for web in some_webs(205, 60):
            if len(web.parts()) < 2:
                continue
            keeper = Keeper(web)
            alone = []
            for part in web.parts():
                alone.append(Keeper(web))
                for person in web.persons():
                    if person not in part:
                        alone[-1].leave(person)
            for beats in (1, 4, 10 ** 30):
                try:
                    told = keeper.go(beats)
                except Crowded:
                    # One by one they may go, for told hearers are counted together.
                    break
                seen += 1
                each = [one.go(beats) for one in alone]
                self.assertEqual(told, {who: many for counts in each for who, many in counts.items()})
                for one in alone:
                    for person in one.web().persons():
                        self.assertEqual(one.sum_of(person), keeper.sum_of(person))
                        self.assertEqual(one.web().state(person), keeper.web().state(person))
        self.assertGreater(seen, 20)

    def test_sums_over_deeds(self):
        keeper = Keeper(Web([("a", 1), ("b", 0)], [("t", "a", "b", 5, ())]))
        self.assertEqual(keeper.go(9), {"a": 0, "b": 1})
        keeper.put("b", 1)
        self.assertEqual(keeper.go(4), {"a": 0, "b": 0})
        keeper.come("c", state=1)
        keeper.lay("s", "c", "a", length=3)
        self.assertEqual(keeper.go(3), {"a": 1, "b": 0, "c": 0})
        self.assertEqual([keeper.sum_of(who) for who in "abc"], [1, 1, 0])
        self.assertEqual(keeper.beats(), 16)

    def test_who_comes_anew(self):
        keeper = Keeper(Web([("a", 1), ("b", 0)], [("t", "a", "b", 5, ())]))
        keeper.go(9)
        self.assertEqual(keeper.sum_of("b"), 1)
        keeper.leave("b")
        with self.assertRaises(NoSuch) as caught:
            keeper.sum_of("b")
        self.assertEqual(caught.exception.who, "b")
        keeper.come("b")
        self.assertEqual((keeper.sum_of("b"), keeper.beats()), (0, 9))
        keeper.put("a", 1)
        keeper.lay("t", "a", "b")
        self.assertEqual(keeper.go(2), {"a": 0, "b": 1})
        self.assertEqual(keeper.sum_of("b"), 1)
        keeper.back(3)
        self.assertEqual(keeper.sum_of("b"), 0)
        keeper.back(2)
        self.assertEqual(keeper.sum_of("b"), 1)

    def test_sum_of_anything(self):
        for web in (cries(), rounds()):
            keeper = Keeper(web)
            keeper.go(1)
            for thing in anything() + ["gus", *web.ties(), ("road", 1)]:
                with self.assertRaises(NoSuch) as caught:
                    keeper.sum_of(thing)
                self.assertIs(caught.exception.who, thing)


class Refused(unittest.TestCase):
    def assert_refused(self, keeper, error, field, worth, ask):
        """Refused, and nothing is changed."""
        before = whole(keeper)
        with self.assertRaises(error) as caught:
            ask()
        self.assertIs(type(caught.exception), error)
        if field == "who":
            self.assertIs(caught.exception.who, worth)
        elif field is not None:
            self.assertEqual(getattr(caught.exception, field), worth)
        self.assertEqual(whole(keeper), before)

    def test_as_the_functions(self):
        keeper = Keeper(cries())
        keeper.put("ann", 2)
        keeper.go(0)
        for error, field, worth, ask in (
                (NoSuch, "who", "gus", lambda: keeper.put("gus", 5)),
                (NoState, None, None, lambda: keeper.put("ann", True)),
                (NoState, None, None, lambda: keeper.put("ann", 3)),
                (NoName, "who", "New", lambda: keeper.lay("New", "gus", "gus", length=0)),
                (Taken, "who", "road", lambda: keeper.lay("road", "gus", "gus", length=0)),
                (Taken, "who", "eve", lambda: keeper.lay("eve", "ann", "bob")),
                (NoSuch, "who", "gus", lambda: keeper.lay("new", "gus", "nob", length=0)),
                (NoSuch, "who", "nob", lambda: keeper.lay("new", "ann", "nob", length=0)),
                (Same, "who", "ann", lambda: keeper.lay("new", "ann", "ann", length=0)),
                (NoLength, None, None, lambda: keeper.lay("new", "ann", "bob", length=1)),
                (NoLength, None, None, lambda: keeper.lay("new", "ann", "bob", length=True)),
                (NoSuch, "who", "gus", lambda: keeper.cut("gus")),
                (NoSuch, "who", "ann", lambda: keeper.cut("ann")),
                (NoSuch, "who", "gus", lambda: keeper.stretch("gus", 0)),
                (NoLength, None, None, lambda: keeper.stretch("road", LONGEST + 1)),
                (Crying, "who", "road", lambda: keeper.stretch("road", 6)),
                (NoName, "who", "", lambda: keeper.come("", state=9)),
                (Taken, "who", "ann", lambda: keeper.come("ann", state=9)),
                (NoState, None, None, lambda: keeper.come("new", state=9)),
                (NoSuch, "who", "gus", lambda: keeper.leave("gus")),
                (NoSuch, "who", "road", lambda: keeper.leave("road"))):
            self.assert_refused(keeper, error, field, worth, ask)

    def test_limits(self):
        keeper = Keeper(Web(many_persons(8), many_ties(12)))
        self.assert_refused(keeper, TooMany, "limit", 8, lambda: keeper.come("new"))
        self.assert_refused(keeper, TooMany, "limit", 12, lambda: keeper.lay("new", "a", "b"))
        keeper = Keeper(Web([("a", 1)]))
        self.assert_refused(keeper, Alone, "who", "a", lambda: keeper.leave("a"))
        keeper = Keeper(rounds())
        self.assert_refused(keeper, NoLength, None, None, lambda: keeper.lay("new", "x", "y", length=2))
        self.assert_refused(keeper, NoLength, None, None, lambda: keeper.stretch("xy", 2))

    def test_go(self):
        for keeper in (Keeper(cries()), Keeper(rounds()), Keeper(burst())):
            for thing in no_counts():
                self.assert_refused(keeper, NoCount, None, None, lambda: keeper.go(thing))
        keeper = Keeper(burst())
        keeper.go(1)
        self.assert_refused(keeper, Crowded, "most", 12, lambda: keeper.go(1))
        self.assert_refused(keeper, Crowded, "most", 12, lambda: keeper.go())
        self.assertEqual(keeper.go(8), {"a": 0, "b": 1})
        self.assertEqual((keeper.log(), keeper.beats()), ([("go", 1), ("go", 8)], 9))

    def test_of_anything(self):
        keeper = Keeper(cries())
        for thing in anything():
            self.assert_refused(keeper, NoSuch, "who", thing, lambda: keeper.put(thing, thing))
            self.assert_refused(keeper, NoName, "who", thing, lambda: keeper.lay(thing, thing, thing, length=thing))
            self.assert_refused(keeper, NoSuch, "who", thing, lambda: keeper.cut(thing))
            self.assert_refused(keeper, NoSuch, "who", thing, lambda: keeper.stretch(thing, thing))
            self.assert_refused(keeper, NoName, "who", thing, lambda: keeper.come(thing, state=thing))
            self.assert_refused(keeper, NoSuch, "who", thing, lambda: keeper.leave(thing))


class Back(unittest.TestCase):
    def done(self):
        keeper = Keeper(Web([("a", 1), ("b", 0)], [("t", "a", "b", 5, ())]))
        stood = [whole(keeper)]
        for do in (lambda: keeper.go(3), lambda: keeper.put("b", 1), lambda: keeper.lay("s", "a", "b", length=4),
                   lambda: keeper.go(4), lambda: keeper.come("c", state=2), lambda: keeper.leave("a"),
                   lambda: keeper.come("a"), lambda: keeper.go(0), lambda: keeper.lay("t", "a", "c"),
                   lambda: keeper.stretch("t", LONGEST), lambda: keeper.cut("t"), lambda: keeper.go(FAR)):
            do()
            stood.append(whole(keeper))
        return keeper, stood

    def test_all_as_it_was(self):
        for many in range(13):
            keeper, stood = self.done()
            self.assertIsNone(keeper.back(many))
            self.assertEqual(whole(keeper), stood[12 - many])
        keeper, stood = self.done()
        for at in range(11, -1, -1):
            keeper.back()
            self.assertEqual(whole(keeper), stood[at])

    def test_and_on_from_there(self):
        keeper, stood = self.done()
        keeper.back(9)
        keeper.put("a", 2)
        self.assertEqual(keeper.log(), stood[3][2] + [("put", "a", 2)])
        keeper.back(1)
        self.assertEqual(whole(keeper), stood[3])
        keeper.back(3)
        self.assertEqual(whole(keeper), stood[0])
        self.assertIsNone(keeper.back(0))

    def test_refused(self):
        keeper, stood = self.done()
        for thing in no_counts() + [13, 14, FAR, True, False, -1, "1"]:
            with self.assertRaises(NoBack):
                keeper.back(thing)
            self.assertEqual(whole(keeper), stood[12])
        keeper.back(12)
        for thing in (1, True, 12):
            with self.assertRaises(NoBack):
                keeper.back(thing)
        with self.assertRaises(NoBack):
            keeper.back()
        keeper.back(0)
        self.assertEqual(whole(keeper), stood[0])

    def test_not_a_deed(self):
        keeper, stood = self.done()
        keeper.back(0)
        keeper.back(1)
        self.assertEqual(len(keeper), 11)
        self.assertEqual([deed[0] for deed in keeper.log()], [deed[0] for deed in stood[11][2]])


class Copies(unittest.TestCase):
    def test_its_own_way(self):
        keeper = Keeper(cries())
        keeper.go(1)
        keeper.put("ann", 1)
        twin = keeper.copied()
        self.assertIs(type(twin), Keeper)
        self.assertIsNot(twin, keeper)
        self.assertEqual((twin, whole(twin)), (keeper, whole(keeper)))
        before = whole(keeper)
        twin.leave("bob")
        twin.go(3)
        self.assertEqual(whole(keeper), before)
        self.assertNotEqual(twin, keeper)
        twin.back(2)
        self.assertEqual(twin, keeper)
        # It may be taken back as far, and each by itself.
        twin.back(2)
        self.assertEqual((whole(twin), whole(keeper)), (whole(Keeper(cries())), before))
        keeper.back(1)
        keeper.cut("road")
        self.assertEqual(twin.log(), [])
        keeper.back(2)
        self.assertEqual(keeper, twin)

    def test_the_elder_goes_on(self):
        keeper = Keeper(rounds())
        keeper.go(2)
        twin = keeper.copied()
        due = whole(twin)
        keeper.go(5)
        keeper.back(2)
        self.assertEqual(whole(twin), due)
        self.assertEqual(twin.copied(), twin)

    def test_two_of_one_web(self):
        web = cries()
        one, other = Keeper(web), Keeper(web)
        one.put("ann", 2)
        one.go(1)
        self.assertEqual(whole(other), whole(Keeper(cries())))
        self.assertEqual(web, cries())


class Equal(unittest.TestCase):
    def test_alike(self):
        one, other = Keeper(cries()), Keeper(cries())
        for do in (lambda keeper: keeper.go(1), lambda keeper: keeper.put("ann", 1), lambda keeper: keeper.cut("way")):
            self.assertTrue(one == other)
            self.assertFalse(one != other)
            do(one)
            self.assertFalse(one == other)
            self.assertTrue(one != other)
            do(other)
        self.assertEqual(one, other)

    def test_unlike_by_the_web(self):
        self.assertNotEqual(Keeper(cries()), Keeper(rounds()))
        self.assertNotEqual(Keeper(cries()), Keeper(with_state(cries(), "ann", 2)))
        self.assertNotEqual(Keeper(Web([("a", 0)])), Keeper(Web([("a", 0)], rounds=True)))
        one, other = Keeper(Web([("a", 0), ("b", 0)])), Keeper(Web([("a", 0), ("b", 1)]))
        for keeper in (one, other):
            keeper.put("a", 2)
        self.assertNotEqual(one, other)

    def test_unlike_by_the_log(self):
        one, other = Keeper(rounds()), Keeper(rounds())
        one.go(0)
        self.assertEqual((one.web(), one.beats()), (other.web(), other.beats()))
        self.assertNotEqual(one, other)
        other.put("x", 0)
        self.assertNotEqual(one, other)
        other.back()
        other.go(0)
        self.assertEqual(one, other)
        one.go(2)
        one.go(1)
        other.go(1)
        other.go(2)
        self.assertEqual((one.web(), len(one)), (other.web(), len(other)))
        self.assertNotEqual(one, other)

    def test_unlike_by_the_sums_alone(self):
        one = Keeper(Web([("a", 1), ("b", 0)], [("t", "a", "b", 5, ())]))
        other = Keeper(Web([("a", 0), ("b", 1)], [("t", "a", "b", 5, ())]))
        for keeper in (one, other):
            keeper.go(20)
        self.assertEqual((one.web(), one.log(), one.beats()), (other.web(), other.log(), other.beats()))
        self.assertFalse(one == other)
        self.assertTrue(one != other)
        # Without those whose sums differ there's nothing unlike any more.
        for keeper in (one, other):
            keeper.come("c")
            keeper.leave("a")
        self.assertNotEqual(one, other)
        for keeper in (one, other):
            keeper.leave("b")
        self.assertEqual(one, other)

    def test_anything_else(self):
        keeper = Keeper(cries())
        for thing in anything() + [cries(), keeper.log(), "ann"]:
            self.assertIs(keeper == thing, False)
            self.assertIs(keeper != thing, True)


class Told(unittest.TestCase):
    def test_own(self):
        keeper = Keeper(rounds())
        keeper.go(4)
        keeper.log().clear()
        keeper.log().append(("go", 1))
        keeper.web().persons().clear()
        keeper.go(0).clear()
        self.assertEqual(keeper.log(), [("go", 4), ("go", 0)])
        self.assertIsNot(keeper.log(), keeper.log())
        self.assertEqual(keeper.sum_of("x"), 4)

    def test_webs_told_earlier(self):
        keeper = Keeper(cries())
        first = keeper.web()
        keeper.put("ann", 2)
        second = keeper.web()
        text = web_text(second)
        keeper.leave("bob")
        self.assertEqual(first, cries())
        self.assertEqual(web_text(second), text)

    def test_by_name(self):
        keeper = Keeper(web=cries())
        keeper.put(state=1, person="ann")
        keeper.lay(length=5, other="bob", one="ann", name="new")
        keeper.cut(tie="road")
        keeper.stretch(length=9, tie="path")
        keeper.come(state=2, name="gus")
        keeper.leave(person="fay")
        keeper.go(beats=1)
        keeper.back(many=1)
        self.assertEqual(keeper.sum_of(person="ann"), 0)
        self.assertEqual(keeper.log(), [("put", "ann", 1), ("lay", "new", "ann", "bob", 5), ("cut", "road"),
                                        ("stretch", "path", 9), ("come", "gus", 2), ("leave", "fay")])
        for ask in (lambda: keeper.lay("more", "ann", "bob", 5), lambda: keeper.come("hal", 1)):
            with self.assertRaises(TypeError):
                ask()


def some_deed(dice, web):
    """Some deed, often refused, as a function of a keeper and one of a web."""
    names = web.persons() + web.ties() + ["new", "more", "newer", "No"]
    who, one, other = [dice.choice(names) for _ in range(3)]
    tie = dice.choice((web.ties() or [who]) + [who])
    number = dice.choice((0, 1, 1, 2, 2, 3, 5, LONGEST, True))
    deeds = [
        (lambda keeper: keeper.put(one, number), lambda then: with_state(then, one, number)),
        (lambda keeper: keeper.lay(who, one, other), lambda then: with_tie(then, who, one, other)),
        (lambda keeper: keeper.lay(who, one, other, length=number),
         lambda then: with_tie(then, who, one, other, length=number)),
        (lambda keeper: keeper.cut(tie), lambda then: without_tie(then, tie)),
        (lambda keeper: keeper.stretch(tie, number), lambda then: with_length(then, tie, number)),
        (lambda keeper: keeper.come(who, state=number), lambda then: with_person(then, who, state=number)),
        (lambda keeper: keeper.leave(one), lambda then: without_person(then, one)),
        (lambda keeper: keeper.go(number), lambda then: gone(then, number)),
        (lambda keeper: keeper.go(number), lambda then: gone(then, number)),
    ]
    return dice.choice(deeds)


def error_of(ask):
    """What is told, or how it is refused."""
    try:
        return ("told", ask())
    except REFUSED as error:
        return (type(error), vars(error))


class ManyDeeds(unittest.TestCase):
    def test_against_the_functions(self):
        dice = random.Random(203)
        for make in (cries_web, rounds_web, cries_web):
            web = make(dice)
            keeper = Keeper(web)
            stood = [whole(keeper)]
            tries = 0
            while len(keeper) < 200 and tries < 3000:
                tries += 1
                now = keeper.web()
                do, told = some_deed(dice, now)
                due = error_of(lambda: told(now))
                done = error_of(lambda: do(keeper))
                if due[0] != "told":
                    self.assertEqual(done, due)
                    self.assertEqual(len(keeper), len(stood) - 1)
                    continue
                self.assertEqual((done[0], keeper.web(), len(keeper)), ("told", due[1], len(stood)))
                stood.append(whole(keeper))
                if dice.random() < 0.05:
                    many = dice.randint(0, min(9, len(keeper)))
                    keeper.back(many)
                    stood = stood[:len(stood) - many]
                    self.assertEqual(whole(keeper), stood[-1])
            self.assertEqual(len(keeper), 200)
            twin = keeper.copied()
            self.assertEqual(twin, keeper)
            keeper.back(200)
            self.assertEqual(whole(keeper), stood[0])
            self.assertEqual(whole(twin), stood[200])

    def test_two_hundred_goes(self):
        web = Web([("a", 0), ("b", 0)], [("s", "a", "b", LONGEST, ((1, 2), (2, 1))), ("t", "b", "a", LONGEST, ())])
        keeper = Keeper(web)
        for _ in range(200):
            keeper.go(10 ** 57 + 3)
        self.assertEqual(keeper.beats(), 200 * (10 ** 57 + 3))
        self.assertEqual(keeper.web(), gone(web, 200 * (10 ** 57 + 3)))
        for person in "ab":
            self.assertEqual(keeper.sum_of(person), count_behind(web, person, 200 * (10 ** 57 + 3)))

    def test_what_is_told_of_the_web_then(self):
        dice = random.Random(204)
        for make in (cries_web, rounds_web):
            keeper = Keeper(make(dice))
            for _ in range(60):
                error_of(lambda: some_deed(dice, keeper.web())[0](keeper))
                web = keeper.web()
                for part in web.parts():
                    kind, levels = levels_or_ring(web, part[0])
                    rate, ring, slopes = rate_of(web, part[0])
                    self.assertEqual(kind == "levels", rate == (0, 1))
                    self.assertIs(are_levels(web, levels), kind == "levels")
                    self.assertIs(do_hold(web, rate, slopes), True)
                    above, beats = above_of(web, part[-1])
                    self.assertTrue(is_fraction(above))
                    upper, lower = rate
                    self.assertEqual(above[0] * lower, above[1] * (count_behind(web, part[-1], beats) * lower - upper * beats))


if __name__ == "__main__":
    unittest.main()
