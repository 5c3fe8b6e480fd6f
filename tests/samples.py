"""Webs and things that several tests share."""

from crywalks.webs import LONGEST, Web


class Odd:
    """A thing of a kind that the program knows nothing of, and that can't be asked much."""

    __hash__ = None

    def __eq__(self, other):
        raise AssertionError("compared")

    def __len__(self):
        raise AssertionError("measured")

    def __bool__(self):
        raise AssertionError("asked for its truth")

    def __repr__(self):
        raise AssertionError("shown")

    def __str__(self):
        raise AssertionError("shown")


CRIES_PERSONS = [("bob", 1), ("ann", 0), ("eve", 2), ("dan", 0), ("cyd", 0), ("fay", 1)]
CRIES_TIES = [
    ("road", "ann", "bob", 5, ((1, 1), (2, 2), (4, 1))),
    ("path", "bob", "ann", 2, ()),
    ("way", "cyd", "eve", LONGEST, ((1, 2), (LONGEST - 1, 1))),
    ("lane", "bob", "fay", 3, ((2, 2),)),
]
ROUNDS_PERSONS = [("x", 0), ("y", 1), ("z", 2), ("w", 0)]
ROUNDS_TIES = [("xy", "x", "y", 1, ()), ("yz", "y", "z", 1, ()), ("zx", "z", "x", 1, ())]


def cries():
    return Web(CRIES_PERSONS, CRIES_TIES)


def rounds():
    return Web(ROUNDS_PERSONS, ROUNDS_TIES, rounds=True)


def anything():
    """Things of many kinds, none of them a name, a number, a list, a tuple of use, or a web's text."""
    return [
        None, True, False, "", " ", "Ann", "ann ", "annnnnnnn", "a1", "\n", b"ann", b"",
        [], {}, set(), (), ["ann"], {"ann": 0}, {"ann"}, ("ann",), ("ann", 1, 1), [("ann", 0)],
        (None, None), ([], []), ({}, 1), (["road"], 1), ("road", [1]), ("road", None), ("road", "1"),
        (("road", 1), 1), ("ann", 1), (1, "road"), ["road", 1], (True, True), -1, -(10 ** 59), 10 ** 59,
        object(), Odd(), (Odd(), 1), ("road", Odd()), [Odd()], int, len, ValueError("x"),
    ]


def many_persons(many):
    return [("abcdefghijklm"[at], 0) for at in range(many)]


def many_ties(many, length=2):
    return [("tie" + "abcdefghijklm"[at], "a", "b", length, ()) for at in range(many)]


def no_counts():
    """Things of many kinds that are no COUNT."""
    others = [thing for thing in anything() if not isinstance(thing, int) or isinstance(thing, bool) or thing < 0]
    return others + ["0", "1", b"1", [1], (0,), {1: 1}]
