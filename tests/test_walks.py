"""[10]: spots and turns along ties, walks, rings, and what is none."""

import unittest

from plain import Plain, some_webs
from samples import Odd, anything, cries, rounds

from crywalks.errors import NoPlace, NoSuch, NoWalk
from crywalks.walks import ring_read, spot_at, turn_along, walk_read
from crywalks.webs import LONGEST, Web


def no_places():
    """Things of many kinds that are no place of any tie."""
    return anything() + ["0", "1", [1], (1,), -1, LONGEST + 1]


class Spots(unittest.TestCase):
    def test_ends_and_between(self):
        web = cries()
        told = [spot_at(web, "road", place) for place in range(6)]
        self.assertEqual(told, ["ann", ("road", 1), ("road", 2), ("road", 3), ("road", 4), "bob"])
        self.assertEqual([spot_at(web, "path", place) for place in range(3)], ["bob", ("path", 1), "ann"])
        self.assertEqual([spot_at(web, "way", place) for place in (0, 1, LONGEST - 1, LONGEST)],
                         ["cyd", ("way", 1), ("way", LONGEST - 1), "eve"])
        for spot in told:
            self.assertIs(web.has_spot(spot), True)

    def test_rounds(self):
        self.assertEqual([spot_at(rounds(), "zx", place) for place in (0, 1)], ["z", "x"])

    def test_no_such(self):
        for web in (cries(), rounds()):
            for thing in anything() + ["gus"] + web.persons() + [("road", 1)]:
                for ask in (lambda: spot_at(web, thing, 0), lambda: spot_at(web, thing, Odd()),
                            lambda: turn_along(web, thing, 0, 1), lambda: turn_along(web, thing, Odd(), Odd())):
                    with self.assertRaises(NoSuch) as caught:
                        ask()
                    self.assertIs(caught.exception.who, thing)

    def test_no_place(self):
        for thing in no_places():
            for web, tie in ((cries(), "way"), (cries(), "road"), (rounds(), "xy")):
                for ask in (lambda: spot_at(web, tie, thing), lambda: turn_along(web, tie, thing, 1),
                            lambda: turn_along(web, tie, 0, thing), lambda: turn_along(web, tie, thing, thing)):
                    with self.assertRaises(NoPlace):
                        ask()

    def test_behind_the_ends(self):
        for tie, length in (("road", 5), ("path", 2), ("way", LONGEST)):
            for place in (-1, length + 1, True, False):
                with self.assertRaises(NoPlace):
                    spot_at(cries(), tie, place)
                with self.assertRaises(NoPlace):
                    turn_along(cries(), tie, place, 0)
                with self.assertRaises(NoPlace):
                    turn_along(cries(), tie, 0, place)

    def test_start_is_looked_at_ahead_of_the_goal(self):
        # A goal that can't even be asked is none of the start's business, and the other way round.
        for start, goal in ((Odd(), 0), (0, Odd()), (Odd(), Odd())):
            with self.assertRaises(NoPlace):
                turn_along(cries(), "road", start, goal)


class Turns(unittest.TestCase):
    def test_by_hand(self):
        # ann 0, then 1 2 0 1, bob 1
        web = cries()
        self.assertEqual([turn_along(web, "road", 0, goal) for goal in range(6)], [0, 1, 1, 1, 2, 2])
        self.assertEqual([turn_along(web, "road", 5, goal) for goal in range(6)], [-2, -1, -1, -1, 0, 0])
        # cyd 0, then 2, still ones, 1, eve 2
        self.assertEqual(turn_along(web, "way", 0, LONGEST), 1)
        self.assertEqual(turn_along(web, "way", LONGEST, 0), -1)
        self.assertEqual(turn_along(web, "way", 0, LONGEST - 2), 0)
        self.assertEqual(turn_along(web, "way", LONGEST - 1, LONGEST), 0)

    def test_without_told_hearers(self):
        for length in (2, 3, 10 ** 30):
            for one in range(3):
                for other in range(3):
                    web = Web([("a", one), ("b", other)], [("t", "a", "b", length, ())])
                    due = (1 if other == 1 else 0) - (1 if one == 1 else 0)
                    self.assertEqual(turn_along(web, "t", 0, length), due)
                    self.assertEqual(turn_along(web, "t", length, 0), -due)

    def test_rounds(self):
        due = {(0, 1): 1, (1, 2): 1, (2, 0): 1, (1, 0): -1, (2, 1): -1, (0, 2): -1}
        for one in range(3):
            for other in range(3):
                web = Web([("a", one), ("b", other)], [("t", "a", "b", 1, ())], rounds=True)
                self.assertEqual(turn_along(web, "t", 0, 1), due.get((one, other), 0))
                self.assertEqual(turn_along(web, "t", 1, 0), -due.get((one, other), 0))

    def test_step_by_step(self):
        for web in some_webs(101, 60):
            plain = Plain(web)
            for tie in web.ties():
                row = plain.row(tie)
                self.assertEqual([spot_at(web, tie, place) for place in range(len(row))], row)
                for start in range(len(row)):
                    self.assertEqual(turn_along(web, tie, start, start), 0)
                    turn = 0
                    for goal in range(start + 1, len(row)):
                        turn += plain.turn(row[goal - 1], row[goal])
                        self.assertEqual(turn_along(web, tie, start, goal), turn)
                        self.assertEqual(turn_along(web, tie, goal, start), -turn)

    def test_by_name(self):
        web = cries()
        self.assertEqual(turn_along(web=web, tie="road", start=0, goal=5), 2)
        self.assertEqual(spot_at(web=web, tie="road", place=5), "bob")


def triangle():
    """Three persons, the ways between them, with told hearers, and a way aside."""
    return Web([("a", 0), ("b", 1), ("c", 0), ("d", 2)],
               [("ab", "a", "b", 6, ((2, 1), (3, 2))), ("cb", "c", "b", 5, ((3, 2), (4, 1))),
                ("ca", "c", "a", 2, ()), ("ac", "a", "c", 10 ** 30, ((7, 1),)), ("ad", "a", "d", 3, ())])


class Walks(unittest.TestCase):
    def test_several_ties(self):
        web = triangle()
        self.assertEqual(walk_read(web, [("ab", 0, 6), ("cb", 5, 0), ("ca", 0, 2)]), ("a", "a", 13, 2))
        self.assertEqual(walk_read(web, [("ab", 3, 0), ("ad", 0, 2)]), (("ab", 3), ("ad", 2), 5, -1))
        self.assertEqual(walk_read(web, [("ab", 1, 2)]), (("ab", 1), ("ab", 2), 1, 1))
        self.assertEqual(walk_read(web, [("ab", 1, 2), ("ab", 2, 1), ("ab", 1, 5), ("ab", 5, 6)]),
                         (("ab", 1), "b", 7, 2))
        self.assertEqual(walk_read(web, [("ac", 6, 10 ** 30), ("ca", 0, 2), ("ac", 0, 7)]),
                         (("ac", 6), ("ac", 7), 10 ** 30 + 3, 1))

    def test_there_and_back(self):
        web = triangle()
        walk = [("ac", 9, 0), ("ab", 0, 6), ("cb", 5, 2)]
        back = [(tie, goal, start) for tie, start, goal in walk[::-1]]
        begin, end, length, turn = walk_read(web, walk)
        self.assertEqual((begin, end, length), (("ac", 9), ("cb", 2), 18))
        self.assertEqual(walk_read(web, back), (end, begin, length, -turn))
        self.assertEqual(walk_read(web, walk + back), (begin, begin, 2 * length, 0))

    def test_ties_between_the_same_two(self):
        self.assertEqual(walk_read(triangle(), [("ac", 0, 10 ** 30), ("ca", 0, 2), ("ca", 2, 0)]),
                         ("a", "c", 10 ** 30 + 4, 0))

    def test_rounds(self):
        walk = [("xy", 0, 1), ("yz", 0, 1), ("zx", 0, 1), ("xy", 0, 1)]
        self.assertEqual(walk_read(rounds(), walk), ("x", "y", 4, 4))
        self.assertEqual(walk_read(rounds(), [("xy", 1, 0), ("zx", 1, 0)]), ("y", "z", 2, -2))

    def test_steps_one_by_one(self):
        for web in some_webs(102, 60):
            plain = Plain(web)
            walk, spots = [], [web.persons()[0]]
            for number in range(8):
                near = web.beside(spots[-1])
                if not near:
                    break
                tie = near[number % len(near)]
                row = plain.row(tie)
                length = len(row) - 1
                forth = row[0] == spots[-1]
                walk.append((tie, 0, length) if forth else (tie, length, 0))
                spots += row[1:] if forth else row[-2::-1]
            if walk:
                turn = sum(plain.turn(one, other) for one, other in zip(spots, spots[1:]))
                self.assertEqual(walk_read(web, walk), (spots[0], spots[-1], len(spots) - 1, turn))

    def test_handed_in_stays(self):
        walk = [("ab", 0, 6), ("cb", 5, 0), ("ca", 0, 2)]
        web = triangle()
        self.assertEqual(walk_read(web=web, walk=walk), ("a", "a", 13, 2))
        self.assertEqual(ring_read(web=web, ring=walk), (13, 2))
        self.assertEqual(walk, [("ab", 0, 6), ("cb", 5, 0), ("ca", 0, 2)])
        self.assertEqual(web, triangle())


class Rings(unittest.TestCase):
    def test_and_gone_about(self):
        web = triangle()
        ring = [("ab", 0, 6), ("cb", 5, 0), ("ca", 0, 2)]
        self.assertEqual(ring_read(web, ring), (13, 2))
        for shift in range(3):
            self.assertEqual(ring_read(web, ring[shift:] + ring[:shift]), (13, 2))
        about = [(tie, goal, start) for tie, start, goal in ring[::-1]]
        self.assertEqual(ring_read(web, about), (13, -2))
        self.assertEqual(ring_read(web, ring + ring), (26, 4))

    def test_there_and_back(self):
        self.assertEqual(ring_read(triangle(), [("ab", 0, 6), ("ab", 6, 0)]), (12, 0))
        self.assertEqual(ring_read(triangle(), [("ac", 10 ** 30, 0), ("ca", 2, 0)]), (10 ** 30 + 2, 0))

    def test_rounds(self):
        self.assertEqual(ring_read(rounds(), [("xy", 0, 1), ("yz", 0, 1), ("zx", 0, 1)]), (3, 3))
        self.assertEqual(ring_read(rounds(), [("zx", 1, 0), ("yz", 1, 0), ("xy", 1, 0)]), (3, -3))


class ManyPieces(unittest.TestCase):
    def test_pieces_that_come_twice(self):
        web = rounds()
        ring = [("xy", 0, 1), ("yz", 0, 1), ("zx", 0, 1)] * 132 + [("xy", 0, 1), ("xy", 1, 0)] * 2
        self.assertEqual(len(ring), 400)
        self.assertEqual(ring_read(web, ring), (400, 396))
        back_and_forth = [("way", 0, LONGEST), ("way", LONGEST, 0)] * 200
        self.assertEqual(ring_read(cries(), back_and_forth), (400 * LONGEST, 0))
        self.assertEqual(walk_read(cries(), back_and_forth), ("cyd", "cyd", 400 * LONGEST, 0))
        self.assertEqual(walk_read(cries(), [("way", 3, 4), ("way", 4, 3)] * 200), (("way", 3), ("way", 3), 400, 0))

    def test_the_last_of_many(self):
        for bad in (("way", 0, 0), ("road", 0, 5), None):
            with self.assertRaises(NoWalk) as caught:
                ring_read(cries(), ([("way", 0, LONGEST), ("way", LONGEST, 0)] * 200)[:399] + [bad])
            self.assertEqual(caught.exception.number, 399)


class NoWalks(unittest.TestCase):
    def assert_none(self, web, thing, number, doors=(walk_read, ring_read)):
        for door in doors:
            with self.assertRaises(NoWalk) as caught:
                door(web, thing)
            self.assertEqual(caught.exception.number, number)

    def test_no_list_and_nothing(self):
        for web in (triangle(), rounds()):
            for thing in anything() + [("ab", 0, 6), (("ab", 0, 6), ("ab", 6, 0)), "ab", {0: ("ab", 0, 6)}]:
                if not isinstance(thing, list) or not thing:
                    self.assert_none(web, thing, 0)
            self.assert_none(web, [], 0)

    def test_no_piece(self):
        web = triangle()
        right = [("ab", 0, 6), ("ab", 6, 0)]
        pieces = anything() + [("ab", 0), ("ab", 0, 6, 0), ["ab", 0, 6], ("gus", 0, 6), ("a", 0, 6), (["ab"], 0, 6),
                               (None, 0, 6), (Odd(), 0, 6), ("ab", -1, 6), ("ab", 0, 7), ("ab", 7, 0), ("ab", 0, "6"),
                               ("ab", None, 6), ("ab", 0, Odd()), ("ab", [0], 6), ("ab", False, 6), ("ab", 0, True),
                               ("ab", True, 6), ("ab", 0, 0), ("ab", 6, 6), ("ab", 0, 10 ** 30)]
        for piece in pieces:
            for ahead in (0, 1, 2, 3):
                row = (right + right)[:ahead]
                self.assert_none(web, row + [piece], ahead)
                self.assert_none(web, row + [piece, piece], ahead)

    def test_true_and_false(self):
        web = rounds()
        self.assertEqual(walk_read(web, [("xy", 0, 1)]), ("x", "y", 1, 1))
        for piece in (("xy", False, 1), ("xy", 0, True), ("xy", False, True)):
            self.assert_none(web, [piece], 0)

    def test_begins_elsewhere(self):
        web = triangle()
        self.assert_none(web, [("ab", 0, 6), ("ab", 0, 6)], 1)
        self.assert_none(web, [("ab", 0, 6), ("cb", 0, 5)], 1)
        self.assert_none(web, [("ab", 0, 6), ("cb", 5, 0), ("ad", 0, 3)], 2)
        self.assert_none(web, [("ab", 0, 3), ("ab", 4, 6)], 1, [walk_read])
        self.assert_none(web, [("ab", 0, 3), ("ad", 3, 0)], 1, [walk_read])
        self.assert_none(web, [("ab", 0, 3), ("cb", 3, 0)], 1, [walk_read])

    def test_first_one_decides(self):
        web = triangle()
        self.assert_none(web, [("ab", 0, 6), ("ab", 0, 6), "no", ("ab", 0, 0)], 1)
        self.assert_none(web, [("ab", 0, 6), "no", ("ab", 0, 6)], 1)

    def test_no_whole_tie(self):
        web = triangle()
        for piece, number in ((("ab", 0, 5), 0), (("ab", 1, 6), 0), (("ab", 5, 0), 0), (("ab", 2, 3), 0),
                              (("ab", 1, 5), 0), (("ab", 4, 2), 0)):
            self.assertEqual(walk_read(web, [piece])[2], abs(piece[1] - piece[2]))
            self.assert_none(web, [piece], number, [ring_read])
            self.assert_none(web, [piece, (piece[0], piece[2], piece[1])], number, [ring_read])
        self.assert_none(web, [("ab", 0, 6), ("cb", 5, 2), ("cb", 2, 0), ("ca", 0, 2)], 1, [ring_read])
        self.assert_none(web, [("ab", 0, 6), ("ab", 0, 6), ("cb", 5, 2)], 1, [ring_read])
        self.assert_none(web, [("ab", 0, 6), ("cb", 5, 2), "no"], 1, [ring_read])

    def test_does_not_come_back(self):
        web = triangle()
        self.assert_none(web, [("ab", 0, 6)], 1, [ring_read])
        self.assert_none(web, [("ab", 0, 6), ("cb", 5, 0)], 2, [ring_read])
        self.assert_none(web, [("ab", 0, 6), ("cb", 5, 0), ("ca", 0, 2), ("ad", 0, 3)], 4, [ring_read])
        self.assert_none(rounds(), [("xy", 0, 1), ("yz", 0, 1)], 2, [ring_read])


if __name__ == "__main__":
    unittest.main()
