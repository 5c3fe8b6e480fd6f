"""[4], as far as it speaks of counts and cries: counts are sums, rings keep, more never hurts, what has no bearing."""

import random
import unittest

from plain import Plain, cries_web, rounds_web, some_webs

from crywalks.beats import beat
from crywalks.counts import count_behind, counts_behind, cry_of
from crywalks.errors import Crowded
from crywalks.walks import ring_read, turn_along
from crywalks.webs import LONGEST, Web

FAR = 10 ** 45 + 11


def rows_of(web):
    """What a web is made of."""
    persons = [(person, web.state(person)) for person in web.persons()]
    ties = [(tie, *web.ends(tie), web.length(tie), web.hearers(tie)) for tie in web.ties()]
    return persons, ties


def about(tie):
    """The same tie, its other being its one."""
    name, one, other, length, told = tie
    return (name, other, one, length, tuple((length - place, state) for place, state in told[::-1]))


def some_rings(dice, web, many):
    """Rings by chance: so many whole ties one behind another, until they come back."""
    rings = []
    for _ in range(many):
        begin = at = dice.choice(web.persons())
        ring = []
        while web.beside(at) and len(ring) < 30 and (at != begin or not ring):
            tie = dice.choice(web.beside(at))
            one, other = web.ends(tie)
            ring.append((tie, 0, web.length(tie)) if at == one else (tie, web.length(tie), 0))
            at = other if at == one else one
        if ring and at == begin:
            rings.append(ring)
    return rings


class CountsAreSums(unittest.TestCase):
    def test_all_walks(self):
        dice = random.Random(41)
        webs = [cries_web(dice, 3) for _ in range(30)] + [rounds_web(dice) for _ in range(10)]
        for web in webs:
            plain = Plain(web)
            if max(len(near) for near in plain.near.values()) > 5:
                continue
            for spot in plain.states:
                turns = [plain.greatest_turn(spot, steps) for steps in range(6)]
                with self.subTest(web=web, spot=spot):
                    self.assertEqual([count_behind(web, spot, steps) for steps in range(6)], turns)
                    for nth in range(1, turns[-1] + 1):
                        self.assertEqual(cry_of(web, spot, nth=nth), turns.index(nth))


class RingsKeep(unittest.TestCase):
    def test_behind_each_beat(self):
        dice = random.Random(42)
        seen = 0
        for web in some_webs(42, 60):
            rings = some_rings(dice, web, 6)
            due = [ring_read(web, ring) for ring in rings]
            then = web
            for beats in range(1, 9):
                try:
                    then = beat(then)
                except Crowded:
                    break
                self.assertEqual([ring_read(then, ring) for ring in rings], due)
                seen += len([turn for length, turn in due if turn != 0])
        self.assertGreater(seen, 100)

    def test_counts_of_a_ties_persons(self):
        for web in some_webs(43, 60):
            then = web
            for beats in range(1, 9):
                try:
                    then = beat(then)
                except Crowded:
                    break
                counts = counts_behind(web, beats)
                for tie in web.ties():
                    one, other = web.ends(tie)
                    length = web.length(tie)
                    self.assertEqual(counts[one] - counts[other],
                                     turn_along(web, tie, 0, length) - turn_along(then, tie, 0, length))


class MoreNeverHurts(unittest.TestCase):
    def test_lengths_so_many_times_as_long(self):
        dice = random.Random(44)
        for _ in range(40):
            persons, ties = rows_of(cries_web(dice, 9))
            persons = [(name, dice.choice((0, 1, 1, 2))) for name, state in persons]
            base = Web(persons, [tie[:4] + ((),) for tie in ties])
            for times in (2, 3, 10 ** 29):
                longer = Web(persons, [tie[:3] + (tie[3] * times, ()) for tie in ties])
                for person, state in persons:
                    for nth in (1, 2, 3, 10 ** 30):
                        cry = cry_of(base, person, nth=nth)
                        self.assertEqual(cry_of(longer, person, nth=nth), None if cry is None else cry * times)
                    for beats in (0, 1, 7, FAR):
                        self.assertEqual(count_behind(longer, person, beats * times), count_behind(base, person, beats))


class NoBearing(unittest.TestCase):
    def assert_same(self, web, other, names):
        """By the names, from those of the web to those of the other, all persons' counts and cries are the same."""
        for beats in (1, 2, 5, 19, FAR):
            counts = counts_behind(other, beats)
            self.assertEqual(counts_behind(web, beats), {name: counts[names[name]] for name in web.persons()})
        for name in web.persons():
            for nth in (1, 2, 10 ** 30):
                self.assertEqual(cry_of(web, name, nth=nth), cry_of(other, names[name], nth=nth))

    def test_order_and_ends(self):
        dice = random.Random(45)
        for web in some_webs(45, 40, 12):
            persons, ties = rows_of(web)
            dice.shuffle(persons)
            dice.shuffle(ties)
            turned = [about(tie) if dice.random() < 0.5 else tie for tie in ties]
            names = {name: name for name in web.persons()}
            self.assert_same(web, Web(persons, turned, rounds=web.rounds()), names)
            self.assert_same(web, Web(persons[::-1], ties[::-1], rounds=web.rounds()), names)

    def test_hearers_on_a_tie_turned_about(self):
        for web in some_webs(46, 24, 12):
            persons, ties = rows_of(web)
            other = Web(persons, [about(tie) for tie in ties], rounds=web.rounds())
            for tie in web.ties():
                length = web.length(tie)
                for place in range(1, length):
                    for beats in (1, 5, FAR):
                        self.assertEqual(count_behind(web, (tie, place), beats),
                                         count_behind(other, (tie, length - place), beats))

    def test_other_names(self):
        for web in some_webs(47, 40, 12):
            persons, ties = rows_of(web)
            names = {name: "z" * (8 - at) for at, name in enumerate(web.persons())}
            other = Web([(names[name], state) for name, state in persons],
                        [("no" + name, names[one], names[end], length, told) for name, one, end, length, told in ties],
                        rounds=web.rounds())
            self.assert_same(web, other, names)

    def test_another_part_beside(self):
        for web in some_webs(48, 40, 12):
            persons, ties = rows_of(web)
            if len(persons) > 6 or len(ties) > 10 or sum(len(tie[4]) for tie in ties) > 8:
                continue
            if web.rounds():
                more = [("m", "x", "y", 1, ()), ("n", "y", "x", 1, ())]
            else:
                more = [("m", "x", "y", LONGEST, ((3, 1), (4, 2))), ("n", "y", "x", 2, ())]
            for at in (0, 1):
                beside = [("x", 1), ("y", 0)]
                other = Web(beside + persons if at else persons + beside, more + ties if at else ties + more,
                            rounds=web.rounds())
                for beats in (1, 2, 5, 19, FAR):
                    counts = counts_behind(other, beats)
                    self.assertEqual(counts_behind(web, beats), {name: counts[name] for name in web.persons()})
                for name in web.persons():
                    self.assertEqual(cry_of(web, name, nth=3), cry_of(other, name, nth=3))


if __name__ == "__main__":
    unittest.main()
