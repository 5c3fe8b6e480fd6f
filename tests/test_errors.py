"""The interface's section crywalks/errors.py: fields, bases."""

import unittest

from crywalks import errors

FIELDS = {
    "WebError": (),
    "NoWeb": ("what", "who"),
    "NoText": ("row",),
    "NoWalk": ("number",),
    "NoPaper": ("row",),
    "NoCount": (),
    "NoPlace": (),
    "NoState": (),
    "NoLength": (),
    "NoName": ("who",),
    "NoCries": (),
    "NoBack": (),
    "NoRow": (),
    "NoSuch": ("who",),
    "Taken": ("who",),
    "Same": ("who",),
    "Crying": ("who",),
    "Alone": ("who",),
    "Endless": ("who",),
    "Crowded": ("most",),
    "TooMany": ("limit",),
}
OTHER_BASES = {
    "WebError": ValueError,
    "NoSuch": LookupError,
    "Taken": RuntimeError,
    "Same": RuntimeError,
    "Crying": RuntimeError,
    "Alone": RuntimeError,
    "Endless": RuntimeError,
    "Crowded": ArithmeticError,
    "TooMany": ArithmeticError,
}
WORTHS = ("ann", "", 0, 12, None, True, ["a list"], ("t", 1), {"a": []})


def kind(name):
    return getattr(errors, name)


class Fields(unittest.TestCase):
    def test_there_are_twenty_one(self):
        found = {name for name, thing in vars(errors).items() if isinstance(thing, type)}
        self.assertEqual(found, set(FIELDS))
        self.assertEqual(len(FIELDS), 21)

    def test_made_by_place(self):
        for name, fields in FIELDS.items():
            for at in range(len(WORTHS)):
                given = (WORTHS + WORTHS)[at:at + len(fields)]
                with self.subTest(name=name, given=given):
                    if fields:
                        self.assertEqual(vars(kind(name)(*given)), dict(zip(fields, given)))

    def test_made_by_name(self):
        for name, fields in FIELDS.items():
            given = dict(zip(fields, ("one", "two")))
            with self.subTest(name=name):
                if fields:
                    self.assertEqual(vars(kind(name)(**given)), given)

    def test_the_field_is_the_thing_itself(self):
        thing = ["no spot"]
        self.assertIs(errors.NoSuch(thing).who, thing)

    def test_without_fields_made_of_a_text(self):
        for name, fields in FIELDS.items():
            with self.subTest(name=name):
                if not fields:
                    error = kind(name)("a text")
                    self.assertEqual(str(error), "a text")
                    self.assertEqual(vars(error), {})

    def test_fields_are_all_asked_for(self):
        for name, fields in FIELDS.items():
            with self.subTest(name=name):
                if fields:
                    with self.assertRaises(TypeError):
                        kind(name)()
                    with self.assertRaises(TypeError):
                        kind(name)(*["x"] * (len(fields) + 1))


class Bases(unittest.TestCase):
    def test_straight_under_the_told_base(self):
        for name in FIELDS:
            with self.subTest(name=name):
                self.assertEqual(kind(name).__bases__, (OTHER_BASES.get(name, errors.WebError),))

    def test_under_none_of_the_others(self):
        for name in FIELDS:
            for other in FIELDS:
                with self.subTest(name=name, other=other):
                    due = name == other or (other == "WebError" and name not in OTHER_BASES)
                    self.assertEqual(issubclass(kind(name), kind(other)), due)

    def test_under_no_other_base(self):
        for name in FIELDS:
            told = OTHER_BASES.get(name, ValueError)
            for base in (ValueError, LookupError, RuntimeError, ArithmeticError, TypeError, KeyError):
                with self.subTest(name=name, base=base):
                    self.assertEqual(issubclass(kind(name), base), base is told)

    def test_raised_and_caught(self):
        for name, fields in FIELDS.items():
            with self.subTest(name=name):
                with self.assertRaises(OTHER_BASES.get(name, ValueError)):
                    raise kind(name)(*["x"] * max(1, len(fields)))


if __name__ == "__main__":
    unittest.main()
