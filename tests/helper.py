"""What several tests need: drawn trees, homes and groups, the roads reckoned over plainly, and ways to hold answers."""

import itertools
import math
import unittest
from fractions import Fraction

from roadshare import errors
from roadshare.errors import ShareError

BIG = 10 ** 30 - 1
NAMES = ["a", "ab", "abcdefgh", "b", "c", "dale", "e", "hill", "mill", "x", "y", "z"]
REFUSALS = [
    errors.NoFraction, errors.NoTree, errors.NoPlace, errors.NoName, errors.NoPrice,
    errors.NoSharing, errors.TooMany, errors.NoDeed, errors.NoText,
]
# Crossings that a tree of at most 40 roads has not.
NOWHERE = [-1, -2, -41, 41, 1000, 10 ** 30, -(10 ** 30), 10 ** 5000]


def pair(fraction):
    return (fraction.numerator, fraction.denominator)


def plain(told):
    return Fraction(told[0], told[1])


def drawn_price(rng):
    kind = rng.randrange(6)
    if kind == 0:
        return (0, 1)
    if kind == 1:
        return pair(Fraction(rng.randrange(10 ** 30), rng.randrange(1, 10 ** 30)))
    if kind == 2:
        return (rng.randrange(5), 1)
    return pair(Fraction(rng.randrange(1, 40), rng.randrange(1, 12)))


def drawn_roads(rng, many):
    """Roads of a tree whose roads lead to crossings with greater and lesser numbers alike."""
    order = list(range(1, many + 1))
    rng.shuffle(order)
    reach = rng.choice([1, 2, 5, 41])
    roads = [None] * many
    for place, k in enumerate(order):
        known = ([0] + order[:place])[-reach:]
        roads[k - 1] = (rng.choice(known), drawn_price(rng))
    return roads


def drawn_homes(rng, crossings, villages):
    names = rng.sample(NAMES, villages)
    return {name: rng.randrange(crossings) for name in names}


def plain_way(roads, k):
    return [] if k == 0 else [k] + plain_way(roads, roads[k - 1][0])


def plain_needed(roads, homes, group):
    return {k for name in group for k in plain_way(roads, homes[name])}


def plain_cost(roads, homes, group):
    return sum((plain(roads[k - 1][1]) for k in plain_needed(roads, homes, group)), Fraction(0))


def all_groups(names):
    """All groups, that of nobody and that of all too."""
    return [list(group) for many in range(len(names) + 1) for group in itertools.combinations(sorted(names), many)]


def cut(roads, k, price):
    """The roads where k is cut in two: the part by the market has the price."""
    to, whole = roads[k - 1]
    made = list(roads) + [(to, pair(price))]
    made[k - 1] = (len(made), pair(plain(whole) - price))
    return made


class Case(unittest.TestCase):
    def hold_fraction(self, told, wanted):
        self.assertEqual(told, wanted)
        self.assertIs(type(told), tuple)
        self.assertEqual([type(number) for number in told], [int, int])
        self.assertGreaterEqual(told[1], 1)
        self.assertEqual(math.gcd(told[0], told[1]), 1)

    def hold_refused(self, refusal, function, *handed):
        for taker in (refusal, ShareError, ValueError):
            with self.assertRaises(taker) as caught:
                function(*handed)
            self.assertIs(type(caught.exception), refusal)
            for other in REFUSALS:
                if other is not refusal:
                    self.assertNotIsInstance(caught.exception, other)

    def hold_list(self, told, wanted):
        self.assertIs(type(told), list)
        self.assertEqual(told, wanted)

    def hold_new_list(self, function, *handed):
        """What is told is the asker's own: changing it changes nothing that is told later, nor the other way round."""
        first = function(*handed)
        kept = list(first)
        second = function(*handed)
        self.assertIsNot(first, second)
        first.append("changed")
        first.reverse()
        self.assertEqual(second, kept)
        self.assertEqual(function(*handed), kept)
