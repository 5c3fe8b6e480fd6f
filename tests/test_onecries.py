"""[19], and of [4] what it says of one cry: single cries by which a part that ends goes on for ever."""

import unittest

from parts_plain import beats_enough, ending_rings, goes_on, spots_of, trees, ways
from plain import LETTERS, Plain, some_webs, told_beats
from samples import Odd, anything, cries, no_counts, rounds
from test_sums import about, rows_of

from crywalks.counts import cry_of, state_behind
from crywalks.deeds import with_state
from crywalks.ends import does_end
from crywalks.errors import Crowded, Endless, NoCount, NoCries, NoSuch
from crywalks.far import gone
from crywalks.levels import levels_or_ring
from crywalks.onecries import one_cries, ring_then
from crywalks.walks import ring_read
from crywalks.webs import LONGEST, Web
from crywalks.webtexts import web_text

FAR = 10 ** 59 + 7


def tried(web, part):
    """What one_cries is to tell: each person tried at each beat, until nobody is set."""
    due = []
    spots = spots_of(web, part)
    for beat, (counts, states, told) in enumerate(told_beats(web, beats_enough(web) + 2)):
        for person in part:
            if states[person] == 0 and goes_on(web, {**states, person: 1}, spots):
                due.append((beat, person))
    return due


def ring_turn(web, states, ring):
    """The turn of a ring by such states, step by step."""
    plain = Plain(web)
    plain.states = dict(states)
    turn = 0
    for tie, start, goal in ring:
        row = plain.row(tie)[::1 if start == 0 else -1]
        turn += sum(plain.turn(one, other) for one, other in zip(row, row[1:]))
    return turn


def home(length, *told, more=()):
    """A ring of two ways: one who cries on a short way, and what is told on the long one."""
    return Web([("a", 0), ("b", 0)], [("s", "a", "b", length, told), ("t", "b", "a", length, more)])


def near_states(web, person, beat):
    """For each tie beside a person its other end, and the state of the hearer next to the person behind so many beats."""
    told = []
    for (tie, start, goal), end in ways(web, person):
        place = 1 if start == 0 else start - 1
        told.append((end, state_behind(web, (tie, place), beat)))
    return told


def by_states(web, persons):
    """What one_cries is to tell of a web of one part, of each beat behind a cry of a hearer next to a person."""
    due = []
    for at, (person, state) in enumerate(persons):
        beats = [0, 1]
        for (tie, start, goal), end in ways(web, person):
            spot = (tie, 1 if start == 0 else start - 1)
            nth = 1
            while cry_of(web, spot, nth=nth) is not None:
                beats.append(cry_of(web, spot, nth=nth) + 1)
                nth += 1
        rest = Web([row for row in persons if row[0] != person],
                   [row for row in rows_of(web)[1] if person not in row[1:3]])
        for beat in set(beats):
            near = near_states(web, person, beat)
            pairs = [(one, other) for one in near for other in near
                     if one[1] == 2 and other[1] != 2 and other[0] in rest.part(one[0])]
            if pairs and state_behind(web, person, beat) == 0:
                due.append((beat, at))
    return [(beat, persons[at][0]) for beat, at in sorted(due)]


class Tried(unittest.TestCase):
    def webs(self, seed):
        return ending_rings(seed, 50) + trees(seed, 6) + [web for web in some_webs(seed, 40, 5) if not web.rounds()]

    def test_against_trying_each(self):
        seen = 0
        for web in self.webs(191):
            for part in web.parts():
                if does_end(web, part[0]):
                    due = tried(web, part)
                    for person in part:
                        with self.subTest(web=web, person=person):
                            self.assertEqual(one_cries(web, person), due)
                    seen += len(due)
        self.assertGreater(seen, 100)

    def test_rings(self):
        seen = 0
        for web in self.webs(192):
            rows = told_beats(web, beats_enough(web) + 3)
            for part in web.parts():
                if not does_end(web, part[0]):
                    continue
                told = one_cries(web, part[0])
                for beat, (counts, states, hearers) in enumerate(rows):
                    for person in part:
                        ring = ring_then(web, person, beat)
                        if (beat, person) not in told:
                            self.assertIsNone(ring)
                            continue
                        seen += 1
                        self.assertEqual(ring_read(web, ring)[1], 0)
                        self.assertGreater(ring_turn(web, {**states, person: 1}, ring), 0)
                        self.assert_goes_on(web, person, beat, ring)
        self.assertGreater(seen, 80)

    def assert_goes_on(self, web, person, beat, ring):
        """The web gone so far and that done, where it isn't crowded: it has the ring, and doesn't end."""
        try:
            then = with_state(gone(web, beat), person, 1)
        except Crowded:
            return
        self.assertGreater(ring_read(then, ring)[1], 0)
        self.assertEqual(levels_or_ring(then, person)[0], "ring")

    def test_behind_the_beats_that_are_told(self):
        for web in self.webs(193):
            for part in web.parts():
                if does_end(web, part[0]):
                    for person in part:
                        for beat in (beats_enough(web) + 3, 10 ** 30, FAR):
                            self.assertIsNone(ring_then(web, person, beat))


class ByHand(unittest.TestCase):
    def test_long_ways(self):
        for length in (9, 20, LONGEST):
            # Who has let a cry pass may cry again as soon as it is still: the hearer behind the cry is hoarse then.
            web = home(length, (4, 1))
            self.assertEqual(one_cries(web, "b"), [(6, "a"), (length - 2, "b")])
            self.assertEqual(one_cries(web, "a"), one_cries(web, "b"))
            self.assertEqual(one_cries(home(length, (1, 1)), "a"), [(3, "a"), (length + 1, "b")])
            web = home(length, (1, 2))
            self.assertEqual(one_cries(web, "b"), [(0, "a")])
            self.assertEqual(ring_read(with_state(web, "a", 1), ring_then(web, "a", 0)), (2 * length, 1))
            self.assertIsNone(ring_then(web, "a", 1))
            self.assertIsNone(ring_then(web, "b", 0))

    def test_beats_of_many_figures(self):
        # Two cries, which would meet on the way t; next to b, on s, one has just died against nobody.
        half = LONGEST // 2
        told = ((half, 1), (half + 1, 1))
        web = Web([("a", 0), ("b", 2)], [("s", "a", "b", LONGEST, told), ("t", "b", "a", 7, ())])
        self.assertTrue(does_end(web, "a"))
        small = Web([("a", 0), ("b", 2)], [("s", "a", "b", 40, ((20, 1), (21, 1))), ("t", "b", "a", 7, ())])
        due = tried(small, ["a", "b"])
        self.assertEqual(one_cries(small, "a"), due)
        self.assertEqual(one_cries(web, "a"), [(beat - 20 + half if beat > 9 else beat, who) for beat, who in due])

    def test_against_states_ahead(self):
        # What [19] says in brackets, of the states that are told ahead, on long ways.
        seen = 0
        for web in ending_rings(194, 60, 12):
            persons, ties = rows_of(web)
            late = [(name, one, other, length + 10 ** 29, tuple((place + 10 ** 28, state) for place, state in told))
                    for name, one, other, length, told in ties]
            then = Web(persons, late)
            if does_end(then, "a"):
                told = one_cries(then, "a")
                self.assertEqual(told, by_states(then, persons))
                for beat, who in told:
                    self.assertIsNotNone(ring_then(then, who, beat))
                    for other in (beat - 1, beat + 1):
                        if other >= 0 and (other, who) not in told:
                            self.assertIsNone(ring_then(then, who, other))
                seen += len([beat for beat, who in told if beat > 10 ** 28])
        self.assertGreater(seen, 30)

    def test_crowded_then(self):
        # Twelve ties from a to b: behind a beat nobody can be told to stand so; all the same it is told what then is.
        ties = [("t" + letter, "a", "b", 6, ()) for letter in LETTERS[:11]]
        for told in (((1, 2),), ((3, 1),), ((2, 1), (3, 2)), ((1, 1),)):
            web = Web([("a", 1), ("b", 0)], ties + [("u", "a", "b", 6, told)])
            if does_end(web, "a"):
                self.assertEqual(one_cries(web, "b"), tried(web, ["a", "b"]))
                with self.assertRaises(Crowded):
                    gone(web, 2)
        # Behind two beats the hearers next to a are hoarse, but that on u, who cried when a did.
        web = Web([("a", 1), ("b", 0)], ties + [("u", "a", "b", 6, ((1, 1),))])
        self.assertIn((2, "a"), one_cries(web, "b"))
        ring = ring_then(web, "a", 2)
        self.assertGreater(ring_turn(web, {**told_beats(web, 2)[2][1], "a": 1}, ring), 0)

    def test_list_of_nothing(self):
        for web in (Web([("a", 1)]), Web([("a", 0), ("b", 1)]), home(5), *trees(195, 10)):
            for person in web.persons():
                self.assertEqual(one_cries(web, person), [])
                for beat in (0, 1, 2, FAR):
                    self.assertIsNone(ring_then(web, person, beat))

    def test_several_at_one_beat(self):
        web = Web([("c", 0), ("b", 0), ("a", 0)],
                  [("s", "a", "b", 9, ((1, 2), (8, 2))), ("t", "b", "c", 9, ()), ("u", "c", "a", 9, ((1, 2),))])
        self.assertEqual(one_cries(web, "a"), [(0, "c"), (0, "b"), (0, "a")])
        self.assertEqual(one_cries(web, "a"), tried(web, ["c", "b", "a"]))

    def test_only_its_own_part(self):
        web = Web([("x", 0), ("a", 0), ("y", 0), ("b", 0)],
                  [("s", "a", "b", 5, ((1, 2),)), ("t", "a", "b", 6, ()), ("u", "y", "x", 5, ((1, 2),)), ("v", "x", "y", 5, ())])
        self.assertEqual([one_cries(web, who) for who in "ab"], [[(0, "a")]] * 2)
        self.assertEqual([one_cries(web, who) for who in "xy"], [[(0, "y")]] * 2)
        self.assertIsNone(ring_then(web, "x", 0))

    def test_a_person_between(self):
        # Without a the two ways don't hang together, so that nothing comes of it.
        web = Web([("a", 0), ("b", 0), ("c", 0)], [("s", "a", "b", 5, ((1, 2),)), ("t", "a", "c", 6, ())])
        self.assertEqual(one_cries(web, "a"), [])
        # With a way between b and c they do.
        web = Web([("a", 0), ("b", 0), ("c", 0)],
                  [("s", "a", "b", 5, ((1, 2),)), ("t", "a", "c", 6, ()), ("u", "c", "b", 7, ())])
        self.assertEqual(one_cries(web, "c"), [(0, "a")])
        ring = ring_then(web, "a", 0)
        self.assertEqual(ring_read(with_state(web, "a", 1), ring), (18, 1))
        self.assertEqual({piece[0] for piece in ring}, {"s", "t", "u"})


class NoBearing(unittest.TestCase):
    def test_order_ends_and_names(self):
        for web in ending_rings(196, 30):
            persons, ties = rows_of(web)
            names = {name: "z" * (8 - at) for at, name in enumerate(web.persons())}
            other = Web([(names[name], state) for name, state in persons],
                        [("no" + row[0], names[row[1]], names[row[2]], *row[3:]) for row in map(about, ties[::-1])])
            self.assertEqual([(beat, names[who]) for beat, who in one_cries(web, "a")], one_cries(other, names["a"]))
            turned = Web(persons[::-1], ties)
            self.assertEqual(sorted(one_cries(turned, "a")), sorted(one_cries(web, "a")))

    def test_then_is_what_was_told(self):
        for web in ending_rings(197, 30):
            told = one_cries(web, "a")
            for beats in (1, 2, 3, 5):
                try:
                    then = gone(web, beats)
                except Crowded:
                    continue
                self.assertEqual(one_cries(then, "a"), [(beat - beats, who) for beat, who in told if beat >= beats])


class Refused(unittest.TestCase):
    def endless(self):
        return Web([("x", 0), ("b", 0), ("a", 0)], [("s", "a", "b", 9, ((3, 1), (4, 2))), ("t", "a", "b", 7, ())])

    def test_no_such(self):
        for web in (cries(), rounds(), self.endless()):
            for thing in anything() + ["gus", "road", ("road", 1), ("s", 3), Odd()]:
                for ask in (lambda: one_cries(web, thing), lambda: ring_then(web, thing, 0),
                            lambda: ring_then(web, thing, Odd())):
                    with self.assertRaises(NoSuch) as caught:
                        ask()
                    self.assertIs(caught.exception.who, thing)

    def test_no_count(self):
        for web, person in ((cries(), "ann"), (rounds(), "x"), (rounds(), "w"), (self.endless(), "a"), (self.endless(), "x")):
            for thing in no_counts():
                with self.assertRaises(NoCount):
                    ring_then(web, person, thing)

    def test_no_cries(self):
        for person in rounds().persons():
            for ask in (lambda: one_cries(rounds(), person), lambda: ring_then(rounds(), person, 0)):
                with self.assertRaises(NoCries):
                    ask()

    def test_endless(self):
        web = self.endless()
        for person in "ab":
            for ask in (lambda: one_cries(web, person), lambda: ring_then(web, person, 0), lambda: ring_then(web, person, FAR)):
                with self.assertRaises(Endless) as caught:
                    ask()
                self.assertEqual(caught.exception.who, "b")
        self.assertEqual(one_cries(web, "x"), [])
        self.assertIsNone(ring_then(web, "x", 3))


class Told(unittest.TestCase):
    def test_by_name(self):
        web = home(5, (1, 2))
        self.assertEqual(one_cries(person="b", web=web), [(0, "a")])
        self.assertEqual(ring_then(beat=0, person="a", web=web), ring_then(web, "a", 0))

    def test_own_and_unchanged(self):
        web = home(5, (1, 2))
        text = web_text(web)
        one_cries(web, "a").clear()
        ring_then(web, "a", 0).clear()
        self.assertEqual(one_cries(web, "a"), [(0, "a")])
        self.assertEqual(len(ring_then(web, "a", 0)), 2)
        self.assertEqual(sorted(ring_then(web, "a", 0)), sorted([("s", 0, 5), ("t", 0, 5)]))
        self.assertIn(ring_then(web, "a", 0)[0], [piece for piece, goal in ways(web, "a")])
        self.assertEqual(web_text(web), text)


if __name__ == "__main__":
    unittest.main()
