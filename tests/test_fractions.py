"""[2], as far as it speaks of fractions."""

import random
import unittest
from fractions import Fraction

from samples import Odd, anything

from crywalks.fractions import fraction, is_fraction, is_less, minus, plus, times

GREAT = 10 ** 59 + 3


def some_numbers(seed, many):
    """Whole numbers of all sizes, below 0, too, and 0."""
    dice = random.Random(seed)
    told = [0, 1, -1, 2, -2, GREAT, -GREAT]
    return told + [dice.randint(-10 ** figures, 10 ** figures) for figures in (1, 1, 2, 9, 30, 59) for _ in range(many)]


def pair_of(number):
    return (number.numerator, number.denominator)


class Made(unittest.TestCase):
    def test_lowest_terms(self):
        for upper, lower, due in ((6, 4, (3, 2)), (4, 2, (2, 1)), (3, 7, (3, 7)), (7, 7, (1, 1)), (5, 1, (5, 1)),
                                  (-6, 4, (-3, 2)), (6, -4, (-3, 2)), (-6, -4, (3, 2)), (7, -1, (-7, 1)), (-1, -1, (1, 1)),
                                  (0, 1, (0, 1)), (0, 9, (0, 1)), (0, -9, (0, 1)), (0, -1, (0, 1)), (1, -3, (-1, 3)),
                                  (10 ** 59, 10 ** 30, (10 ** 29, 1)), (10 ** 30, -(10 ** 59), (-1, 10 ** 29)),
                                  (GREAT * 6, GREAT * 15, (2, 5)), (2 ** 1000, 2 ** 1001, (1, 2))):
            with self.subTest(upper=upper, lower=lower):
                self.assertEqual(fraction(upper, lower), due)
                self.assertIs(type(fraction(upper, lower)), tuple)
                self.assertEqual({type(number) for number in fraction(upper, lower)}, {int})

    def test_by_chance(self):
        for upper in some_numbers(21, 5):
            for lower in some_numbers(22, 5):
                if lower != 0:
                    self.assertEqual(fraction(upper, lower), pair_of(Fraction(upper, lower)))

    def test_reckoned(self):
        numbers = some_numbers(23, 3)
        made = [Fraction(upper, lower) for upper in numbers for lower in numbers[::-3] if lower != 0]
        dice = random.Random(24)
        for _ in range(2000):
            one, other = dice.choice(made), dice.choice(made)
            first, second = pair_of(one), pair_of(other)
            self.assertEqual(plus(first, second), pair_of(one + other))
            self.assertEqual(minus(first, second), pair_of(one - other))
            self.assertEqual(times(first, second), pair_of(one * other))
            self.assertIs(is_less(first, second), one < other)
            self.assertIs(is_less(first, first), False)

    def test_by_hand(self):
        self.assertEqual(plus((1, 6), (1, 3)), (1, 2))
        self.assertEqual(plus((1, 2), (-1, 2)), (0, 1))
        self.assertEqual(minus((1, 6), (1, 3)), (-1, 6))
        self.assertEqual(minus((1, 3), (1, 3)), (0, 1))
        self.assertEqual(times((2, 3), (-3, 4)), (-1, 2))
        self.assertEqual(times((0, 1), (-3, 4)), (0, 1))
        for one, other, due in (((1, 3), (1, 2), True), ((1, 2), (1, 3), False), ((-1, 2), (-1, 3), True),
                                ((-1, 3), (-1, 2), False), ((-1, 2), (0, 1), True), ((0, 1), (0, 1), False),
                                ((GREAT, GREAT + 1), (GREAT + 1, GREAT + 2), True)):
            self.assertIs(is_less(one, other), due)

    def test_by_name(self):
        self.assertEqual(fraction(lower=4, upper=2), (1, 2))
        self.assertEqual(plus(other=(1, 2), one=(1, 3)), (5, 6))
        self.assertEqual(minus(other=(1, 2), one=(1, 3)), (-1, 6))
        self.assertEqual(times(other=(1, 2), one=(1, 3)), (1, 6))
        self.assertIs(is_less(other=(1, 2), one=(1, 3)), True)
        self.assertIs(is_fraction(thing=(1, 2)), True)


class IsFraction(unittest.TestCase):
    def test_fractions(self):
        for thing in ((0, 1), (1, 1), (-1, 1), (1, 2), (-1, 2), (3, 2), (GREAT, 1), (1, GREAT), (-GREAT, GREAT + 1)):
            self.assertIs(is_fraction(thing), True)
        for upper in some_numbers(25, 2):
            for lower in some_numbers(26, 2):
                if lower != 0:
                    self.assertIs(is_fraction(fraction(upper, lower)), True)

    def test_no_fractions(self):
        for thing in ((0, 2), (2, 2), (2, 4), (-2, 4), (GREAT, GREAT), (0, GREAT), (0, 0), (1, 0), (0, -1), (1, -1),
                      (-1, -1), (1, -2), (-1, -2), [1, 2], [0, 1], (1,), (1, 2, 3), (0, 1, 0), (), 0, 1, "1/2", "01",
                      (True, 1), (False, 1), (1, True), (0, True), (True, True), (1, False), ("1", 2), (1, "2"), (1, None),
                      (None, 1), ([1], 2), (1, [2]), ((1, 2), 1), (1, (2, 1)), {0: 1}, {1: 2}, b"12", Fraction(1, 2),
                      (Fraction(1), 1), (Odd(), 1), (1, Odd())):
            self.assertIs(is_fraction(thing), False)

    def test_of_anything(self):
        for thing in anything():
            self.assertIs(is_fraction(thing), False)


if __name__ == "__main__":
    unittest.main()
