"""[12], and of [4] that it has no bearing how a web is gone: webs so many beats on."""

import random
import unittest

from plain import LETTERS, Plain, some_webs, told_beats
from samples import cries, no_counts, rounds
from test_sums import about, rows_of, some_rings

from crywalks.beats import beat
from crywalks.counts import count_behind, counts_behind, cry_of, state_behind
from crywalks.errors import Crowded, NoCount
from crywalks.far import gone
from crywalks.walks import ring_read, turn_along
from crywalks.webs import LONGEST, Web
from crywalks.webtexts import web_text

FAR = 10 ** 59 + 7


def gone_or_none(web, beats):
    try:
        return gone(web, beats)
    except Crowded:
        return None


def long_webs(seed, many):
    """Rings of long ways, few cries on them, so that they are seldom crowded; and how long a way is about."""
    dice = random.Random(seed)
    webs = []
    for _ in range(many):
        scale = dice.choice((60, 10 ** 12, 10 ** 29))
        names = LETTERS[:dice.randint(2, 5)]
        ties = []
        left = 6
        for number in range(len(names) + dice.randint(0, 2)):
            ends = [names[number], names[(number + 1) % len(names)]] if number < len(names) else dice.sample(names, 2)
            length = dice.randint(scale, 10 * scale)
            told = ()
            if left and dice.random() < 0.6:
                place = dice.choice((1, 2, length - 2, dice.randint(1, length - 2)))
                told = dice.choice((((place, 1), (place + 1, 2)), ((place, 2), (place + 1, 1))))
                left -= 2
            ties.append(("t" + LETTERS[number], *ends, length, told))
        webs.append((Web([(name, dice.choice((0, 0, 0, 1, 2))) for name in names], ties), scale))
    return webs


class BeatByBeat(unittest.TestCase):
    def test_against_single_beats(self):
        refused = 0
        for web in some_webs(121, 60, 10):
            plain = Plain(web)
            for beats in range(31):
                with self.subTest(web=web, beats=beats):
                    if plain.crowd() > 12:
                        refused += 1
                        with self.assertRaises(Crowded) as caught:
                            gone(web, beats)
                        self.assertEqual(caught.exception.most, 12)
                    else:
                        self.assertEqual(gone(web, beats), plain.now())
                plain.beat()
        self.assertGreater(refused, 10)

    def test_long_ties_and_many_beats(self):
        for web in some_webs(122, 12, 70):
            rows = told_beats(web, 300)
            for beats in (1, 2, 3, 10, 33, 34, 71, 140, 299, 300):
                counts, states, told = rows[beats]
                then = gone_or_none(web, beats)
                crowd = sum(len(row) for row in told.values())
                self.assertEqual(then is None, crowd > 12)
                if then is not None:
                    self.assertEqual({tie: then.hearers(tie) for tie in then.ties()}, told)
                    self.assertEqual([then.state(person) for person in then.persons()],
                                     [states[person] for person in web.persons()])

    def test_none_and_one(self):
        for web in some_webs(123, 60):
            self.assertEqual(gone(web, 0), web)
            try:
                then = beat(web)
            except Crowded:
                then = None
            self.assertEqual(gone_or_none(web, 1), then)

    def test_rounds(self):
        self.assertEqual(gone(rounds(), 10 ** 30), Web([("x", 1), ("y", 2), ("z", 0), ("w", 0)],
                                                       [("xy", "x", "y", 1, ()), ("yz", "y", "z", 1, ()),
                                                        ("zx", "z", "x", 1, ())], rounds=True))
        self.assertEqual(gone(rounds(), 3 * 10 ** 58), rounds())


class Trains(unittest.TestCase):
    def test_meet_and_die(self):
        for length in (9, 10, LONGEST - 1, LONGEST):
            web = Web([("a", 1), ("b", 1)], [("t", "a", "b", length, ())])
            middle = length // 2
            # In the middle they come together: onto one hearer, or onto two who stand side by side.
            last = (length - 1) // 2
            self.assertEqual(gone(web, last).hearers("t"), tuple(sorted(
                {last: 1, last - 1: 2, length - last: 1, length - last + 1: 2}.items())))
            then = {middle: 1, middle - 1: 2, middle + 1: 2} if length % 2 == 0 else {middle: 2, middle + 1: 2}
            self.assertEqual(gone(web, last + 1).hearers("t"), tuple(sorted(then.items())))
            still = Web([("a", 0), ("b", 0)], [("t", "a", "b", length, ())])
            for beats in (last + 3, length, 10 ** 40, FAR):
                self.assertEqual(gone(web, beats), still)

    def test_on_their_way(self):
        # The short ring at one end sends a cry each six beats; nobody answers from the other end.
        def web(length, told=()):
            return Web([("a", 1), ("b", 0), ("c", 0)],
                       [("s", "a", "b", 2, ((1, 2),)), ("t", "a", "b", 4, ()), ("u", "b", "c", length, told)])

        for length in (7, 20, 31, 100):
            rows = told_beats(web(length), 120)
            for beats in range(121):
                then = gone_or_none(web(length), beats)
                told = rows[beats][2]
                if sum(len(row) for row in told.values()) > 12:
                    self.assertIsNone(then)
                else:
                    self.assertEqual({tie: then.hearers(tie) for tie in then.ties()}, told)
        long = web(LONGEST)
        self.assertEqual(gone(long, 23).hearers("u"), ((1, 1), (6, 2), (7, 1), (12, 2), (13, 1), (18, 2), (19, 1)))
        for beats in (100, LONGEST, LONGEST + 10 ** 20, FAR):
            with self.assertRaises(Crowded):
                gone(long, beats)

    def test_trains_that_meet(self):
        # Each end sends its own; where both send alike they meet in the middle for ever.
        for length in (11, 12, 13, 14):
            web = Web([("a", 1), ("b", 0), ("c", 1), ("d", 0)],
                      [("s", "a", "b", 2, ((1, 2),)), ("t", "a", "b", 4, ()),
                       ("v", "c", "d", 2, ((1, 2),)), ("w", "c", "d", 4, ()), ("u", "b", "d", length, ())])
            plain = Plain(web)
            for beats in range(90):
                then = gone_or_none(web, beats)
                self.assertEqual(then, plain.now() if plain.crowd() <= 12 else None)
                plain.beat()

    def test_round_and_round(self):
        for length in (5, LONGEST):
            web = Web([("a", 0), ("b", 0)],
                      [("s", "a", "b", length, ((1, 2), (2, 1))), ("t", "b", "a", length, ())])
            for rounds_gone in (1, 2, 10 ** 28):
                self.assertEqual(gone(web, rounds_gone * 2 * length), web)
                half = gone(web, rounds_gone * 2 * length + length)
                self.assertEqual((half.hearers("s"), half.hearers("t")), ((), ((1, 2), (2, 1))))
                at = gone(web, rounds_gone * 2 * length + length - 2)
                self.assertEqual((at.state("b"), at.hearers("s"), at.hearers("t")), (1, ((length - 1, 2),), ()))


class CrowdedThen(unittest.TestCase):
    def burst(self, length):
        """One who cries, with twelve ties beside it: more hearers than a web can have aren't still, for a while."""
        ties = [("t" + letter, "a", "b", length, ()) for letter in LETTERS[:10]]
        return Web([("a", 1), ("b", 0), ("c", 0)], ties + [("u", "a", "c", length, ()), ("v", "c", "a", length, ())])

    def test_by_the_end_alone(self):
        for length in (6, 50, LONGEST):
            web = self.burst(length)
            self.assertEqual(sum(len(gone(web, 1).hearers(tie)) for tie in web.ties()), 12)
            for beats in (2, 3, length - 1):
                with self.assertRaises(Crowded) as caught:
                    gone(web, beats)
                self.assertEqual(caught.exception.most, 12)
            # All have come to the ends at once, and only those behind them are hoarse.
            at = gone(web, length)
            self.assertEqual([at.hearers(tie) for tie in web.ties()],
                             [((length - 1, 2),)] * 11 + [((1, 2),)])
            self.assertEqual([at.state(person) for person in "abc"], [0, 1, 1])
            for beats in (length + 2, 2 * length, 10 ** 40, FAR):
                self.assertEqual(gone(web, beats), Web([("a", 0), ("b", 0), ("c", 0)], rows_of(web)[1]))

    def test_no_single_beats_there(self):
        web = self.burst(9)
        with self.assertRaises(Crowded):
            beat(beat(web))
        with self.assertRaises(Crowded):
            gone(gone(web, 1), 1)
        self.assertEqual(gone(gone(web, 1), 8), gone(web, 9))

    def test_twelve_at_most(self):
        # Six cries on their way, two hearers each: twelve, and with a seventh more.
        for length in (40, LONGEST):
            six = [("t" + letter, "a", "b", length, ((4, 2), (5, 1))) for letter in LETTERS[:6]]
            web = Web([("a", 0), ("b", 0), ("c", 1)], six)
            self.assertEqual([gone(web, 20).hearers(tie[0]) for tie in six], [((24, 2), (25, 1))] * 6)
            # In another part: told hearers are counted together.
            more = Web([("a", 0), ("b", 0), ("c", 1), ("d", 0)], six + [("u", "c", "d", 30, ())])
            for beats in (1, 2, 20, 29, 30):
                with self.assertRaises(Crowded):
                    gone(more, beats)
            self.assertEqual(gone(more, 31).hearers("ta"), ((35, 2), (36, 1)))
            self.assertEqual(gone(more, 31).state("d"), 2)


class HoweverGone(unittest.TestCase):
    def test_in_one_call_and_in_several(self):
        dice = random.Random(124)
        seen = 0
        for web, scale in long_webs(124, 80):
            far = [1, 2, dice.randint(0, 5 * scale), dice.randint(0, 30 * scale), 10 ** 58 + dice.randint(0, 10 ** 40)]
            first, second = dice.choice(far), dice.choice(far)
            then = gone_or_none(web, first)
            if then is None:
                continue
            seen += 1
            self.assertEqual(gone_or_none(then, second), gone_or_none(web, first + second))
            self.assert_ahead(web, then, first, second)
            self.assert_turns(web, then, first)
        self.assertGreater(seen, 60)

    def assert_ahead(self, web, then, first, second):
        """What is told ahead of it then is what was told ahead before, so many beats less."""
        spots = web.persons() + [(tie, place) for tie in web.ties() for place in (1, web.length(tie) // 2)
                                 if 0 < place < web.length(tie)]
        for spot in spots:
            done = count_behind(web, spot, first)
            self.assertEqual(then.state(spot), state_behind(web, spot, first))
            self.assertEqual(done + count_behind(then, spot, second), count_behind(web, spot, first + second))
            self.assertEqual(state_behind(then, spot, second), state_behind(web, spot, first + second))
            cry = cry_of(web, spot, nth=done + 2)
            self.assertEqual(cry_of(then, spot, nth=2), None if cry is None else cry - first)

    def assert_turns(self, web, then, beats):
        """Rings keep; a tie's counts differ by its turn, now less then."""
        for ring in some_rings(random.Random(1), web, 5):
            self.assertEqual(ring_read(then, ring), ring_read(web, ring))
        counts = counts_behind(web, beats)
        for tie in web.ties():
            one, other = web.ends(tie)
            length = web.length(tie)
            self.assertEqual(counts[one] - counts[other],
                             turn_along(web, tie, 0, length) - turn_along(then, tie, 0, length))

    def test_rounds_in_several(self):
        for web in some_webs(125, 40):
            if web.rounds():
                for first, second in ((1, 1), (3, 10 ** 30), (10 ** 30, 5), (FAR, FAR)):
                    then = gone(web, first)
                    self.assertEqual(gone(then, second), gone(web, first + second))
                    self.assert_ahead(web, then, first, second)
                    self.assert_turns(web, then, first)

    def test_what_has_no_bearing(self):
        for web, scale in long_webs(126, 30):
            persons, ties = rows_of(web)
            other = Web(persons[::-1], [about(tie) for tie in ties[::-1]])
            for beats in (1, scale, 7 * scale, 10 ** 58):
                then, there = gone_or_none(web, beats), gone_or_none(other, beats)
                self.assertEqual(then is None, there is None)
                if then is not None:
                    persons_then, ties_then = rows_of(then)
                    self.assertEqual(there, Web(persons_then[::-1], [about(tie) for tie in ties_then[::-1]]))


class Refused(unittest.TestCase):
    def test_no_count(self):
        for web in (cries(), rounds()):
            for thing in no_counts():
                with self.assertRaises(NoCount):
                    gone(web, thing)

    def test_no_count_where_it_would_be_crowded(self):
        web = Web([("a", 1), ("b", 0)], [("t" + letter, "a", "b", 9, ()) for letter in LETTERS])
        for thing in (True, -1, "2"):
            with self.assertRaises(NoCount):
                gone(web, thing)
        with self.assertRaises(Crowded):
            gone(web, 2)


class Values(unittest.TestCase):
    def test_the_web_stays(self):
        for make in (cries, rounds):
            web = make()
            text = web_text(web)
            gone_or_none(web, 3)
            gone_or_none(web, FAR)
            self.assertEqual(web, make())
            self.assertEqual(web_text(web), text)

    def test_by_name(self):
        self.assertEqual(gone(web=rounds(), beats=2), gone(rounds(), 2))

    def test_order_and_kind(self):
        for web in (cries(), rounds()):
            then = gone(web, 2)
            self.assertEqual((then.persons(), then.ties(), then.rounds()), (web.persons(), web.ties(), web.rounds()))
            self.assertEqual([then.length(tie) for tie in then.ties()], [web.length(tie) for tie in web.ties()])
            self.assertEqual(then, beat(beat(web)))


if __name__ == "__main__":
    unittest.main()
