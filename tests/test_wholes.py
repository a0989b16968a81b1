"""Whole numbers (point 2), and the divisors and multiples that fractions need."""

import math
import unittest

from roadshare.wholes import greatest_divisor, is_whole, least_multiple

WHOLES = [0, 1, -1, 2, -7, 10 ** 30 - 1, -(10 ** 30), 10 ** 5000, -(10 ** 5000)]
OTHERS = [
    True, False, None, "", "1", "one", 1.0, 0.5, b"1", [], [1], [1, 2], (), (1,), (1, 2), (1, 2, 3),
    {}, {1: 2}, {1}, int, object(), len,
]


class WholesTest(unittest.TestCase):
    def test_ints_of_any_size_are_whole(self):
        for thing in WHOLES:
            with self.subTest(bits=thing.bit_length(), above=thing > 0):
                self.assertIs(is_whole(thing), True)

    def test_truths_and_all_else_are_not(self):
        for thing in OTHERS:
            with self.subTest(thing=repr(thing)):
                self.assertIs(is_whole(thing), False)

    def test_lists_that_are_asked_of_stay_as_they_were(self):
        asked = [1, [2]]
        is_whole(asked)
        self.assertEqual(asked, [1, [2]])


class GreatestDivisorTest(unittest.TestCase):
    def test_it_is_the_greatest_and_never_below_0(self):
        some = [0, 1, -1, 2, 6, -9, 12, 35, 10 ** 30, -(6 ** 40), 2 ** 100 - 1]
        for one in some:
            for other in some:
                with self.subTest(one=one, other=other):
                    self.assertEqual(greatest_divisor(one, other), math.gcd(one, other))


class LeastMultipleTest(unittest.TestCase):
    def test_it_is_the_least(self):
        some = [1, 2, 6, 9, 12, 35, 10 ** 30, 6 ** 40, 2 ** 100 - 1]
        for one in some:
            for other in some:
                with self.subTest(one=one, other=other):
                    self.assertEqual(least_multiple(one, other), math.lcm(one, other))


if __name__ == "__main__":
    unittest.main()
