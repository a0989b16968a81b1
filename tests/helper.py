"""What several tests need: drawn trees, homes and groups, the roads reckoned over plainly, and ways to hold answers."""

import contextlib
import copy
import itertools
import math
import time
import unittest
from fractions import Fraction

from roadshare import errors
from roadshare.errors import ShareError
from roadshare.trees import Tree

BIG = 10 ** 30 - 1
NAMES = ["a", "ab", "abcdefgh", "b", "c", "dale", "e", "hill", "mill", "x", "y", "z"]
REFUSALS = [
    errors.NoFraction, errors.NoTree, errors.NoPlace, errors.NoName, errors.NoPrice,
    errors.NoSharing, errors.TooMany, errors.NoDeed, errors.NoText,
]
# Texts that are no names of villages.
NO_NAMES = [
    "", "abcdefghi", "a" * 3000, "A", "oaK", "a b", " a", "a ", "a1", "0", "a-b", "a_b", "a:b", "a,b", "a.", "a\n",
    "\n", "`", "{", "\u00e4", "\u00df", "\uff41", "\u0430",
]
# Things that are no texts.
NO_TEXTS = [None, True, False, 0, 1, -1, [], ["0"], (), ("0",), (1, 2), {}, b"0", 1.5]
# Things that are no prices.
NO_PRICES = [
    None, True, False, 0, 1, -1, 10 ** 5000, "", "1", "1/2", [], (), [1, 2], [(1, 1)], (1,), (1, 2, 3), ((1, 1),),
    ((1, 1), 1), (1, None), (None, 1), (True, 1), (1, True), (False, 1), ("1", 1), (1, "1"), ([1], 1), (1, [1]),
    (2, 4), (0, 2), (1, 0), (0, 0), (1, -2), (0, -1), (-1, 1), (-1, 2), (-BIG, 1), (-1, BIG), (3 * BIG, BIG),
]
# Crossings that a tree of at most 40 roads has not.
NOWHERE = [-1, -2, -41, 41, 1000, 10 ** 30, -(10 ** 30), 10 ** 5000]


def pair(fraction):
    return (fraction.numerator, fraction.denominator)


def plain(told):
    return Fraction(told[0], told[1])


def drawn_price(rng):
    kind = rng.randrange(6)
    if kind == 0:
        return (0, 1)
    if kind == 1:
        return pair(Fraction(rng.randrange(10 ** 30), rng.randrange(1, 10 ** 30)))
    if kind == 2:
        return (rng.randrange(5), 1)
    return pair(Fraction(rng.randrange(1, 40), rng.randrange(1, 12)))


def drawn_roads(rng, many):
    """Roads of a tree whose roads lead to crossings with greater and lesser numbers alike."""
    order = list(range(1, many + 1))
    rng.shuffle(order)
    reach = rng.choice([1, 2, 5, 41])
    roads = [None] * many
    for place, k in enumerate(order):
        known = ([0] + order[:place])[-reach:]
        roads[k - 1] = (rng.choice(known), drawn_price(rng))
    return roads


def drawn_homes(rng, crossings, villages):
    names = rng.sample(NAMES, villages)
    return {name: rng.randrange(crossings) for name in names}


def plain_way(roads, k):
    return [] if k == 0 else [k] + plain_way(roads, roads[k - 1][0])


def plain_needed(roads, homes, group):
    return {k for name in group for k in plain_way(roads, homes[name])}


def plain_cost(roads, homes, group):
    return sum((plain(roads[k - 1][1]) for k in plain_needed(roads, homes, group)), Fraction(0))


def all_groups(names):
    """All groups, that of nobody and that of all too."""
    return [list(group) for many in range(len(names) + 1) for group in itertools.combinations(sorted(names), many)]


def cut(roads, k, price):
    """The roads where k is cut in two: the part by the market has the price."""
    to, whole = roads[k - 1]
    made = list(roads) + [(to, pair(price))]
    made[k - 1] = (len(made), pair(plain(whole) - price))
    return made


def come_by_come(rng, roads, homes):
    """What each village adds in a drawn order of coming: good, and full of groups that pay just what they cost."""
    order = rng.sample(sorted(homes), len(homes))
    return {
        name: pair(plain_cost(roads, homes, order[:place + 1]) - plain_cost(roads, homes, order[:place]))
        for place, name in enumerate(order)
    }


def paid_by(sharing, group):
    return sum((plain(sharing[name]) for name in group), Fraction(0))


def rank(rows):
    """How many of some rows of fractions are not made of the others."""
    found = 0
    rows = list(rows)
    while rows:
        row = rows.pop()
        lead = next((k for k, one in enumerate(row) if one != 0), None)
        if lead is not None:
            found += 1
            rows = [[one - other[lead] / row[lead] * own for one, own in zip(other, row)] for other in rows]
    return found


def lists_within(told):
    """All lists and dicts that are told, also within lists, tuples and dicts."""
    found = [told] if isinstance(told, (list, dict)) else []
    within = told.values() if isinstance(told, dict) else told if isinstance(told, (list, tuple)) else ()
    for one in within:
        found += lists_within(one)
    return found


def spoil(some):
    for one in lists_within(some):
        if isinstance(one, dict):
            one["changed"] = "changed"
        else:
            one.append("changed")
            one.reverse()


def copied(handed):
    """A deep copy; a tree is made anew of its roads."""
    return [Tree(one.roads()) if isinstance(one, Tree) else copy.deepcopy(one) for one in handed]


def laid_open(handed):
    """What can be compared of what is handed in: a dict's order too."""
    return [repr(one.roads() if isinstance(one, Tree) else one) for one in handed]


class Model:
    """What deeds do to roads and homes, done plainly."""

    def __init__(self, roads):
        self.roads = list(roads)
        self.homes = {}
        self.past = []

    def do(self, deed, *handed):
        if deed == "back":
            self.roads, self.homes = self.past.pop()
            return None
        self.past.append((list(self.roads), dict(self.homes)))
        if deed in ("come", "move"):
            self.homes[handed[0]] = handed[1]
        if deed == "go":
            self.homes = {name: k for name, k in self.homes.items() if name != handed[0]}
        if deed == "reprice":
            self.roads[handed[0] - 1] = (self.roads[handed[0] - 1][0], handed[1])
        if deed == "cut":
            self.roads = cut(self.roads, handed[0], plain(handed[1]))
        if deed == "build":
            self.roads = self.roads + [tuple(handed)]
        return len(self.roads) if deed in ("cut", "build") else None


def drawn_deed(rng, model):
    """A deed that is due, or back, with what is handed in; none where the drawn one can not be done."""
    deed = rng.choice(["come", "come", "come", "go", "move", "reprice", "cut", "build", "back"])
    crossing = rng.randrange(len(model.roads) + 1)
    strange = [name for name in NAMES if name not in model.homes]
    if deed == "come" and strange:
        return (deed, rng.choice(strange), crossing)
    if deed in ("go", "move") and model.homes:
        name = rng.choice(sorted(model.homes))
        return (deed, name) if deed == "go" else (deed, name, crossing)
    if deed == "reprice" and crossing > 0:
        return (deed, crossing, drawn_price(rng))
    if deed == "cut" and crossing > 0 and len(model.roads) < 40:
        part = rng.choice([Fraction(0), Fraction(1), Fraction(rng.randrange(30), 30)])
        return (deed, crossing, pair(plain(model.roads[crossing - 1][1]) * part))
    if deed == "build" and len(model.roads) < 40:
        return (deed, crossing, drawn_price(rng))
    if deed == "back" and model.past:
        return (deed,)
    return None


class Case(unittest.TestCase):
    def hold_fraction(self, told, wanted):
        self.assertEqual(told, wanted)
        self.assertIs(type(told), tuple)
        self.assertEqual([type(number) for number in told], [int, int])
        self.assertGreaterEqual(told[1], 1)
        self.assertEqual(math.gcd(told[0], told[1]), 1)

    def hold_refused(self, refusal, function, *handed):
        for taker in (refusal, ShareError, ValueError):
            with self.assertRaises(taker) as caught:
                function(*handed)
            self.assertIs(type(caught.exception), refusal)
            for other in REFUSALS:
                if other is not refusal:
                    self.assertNotIsInstance(caught.exception, other)

    def hold_list(self, told, wanted):
        self.assertIs(type(told), list)
        self.assertEqual(told, wanted)

    def hold_new_list(self, function, *handed):
        """What is told is the asker's own: changing it changes nothing that is told later, nor the other way round."""
        first = function(*handed)
        kept = list(first)
        second = function(*handed)
        self.assertIsNot(first, second)
        first.append("changed")
        first.reverse()
        self.assertEqual(second, kept)
        self.assertEqual(function(*handed), kept)

    def hold_own(self, function, *handed):
        """Of all that is told every list and dict is new, and nothing that is handed in is changed or kept."""
        wanted = copy.deepcopy(function(*copied(handed)))
        lent = copied(handed)
        first = function(*lent)
        second = function(*lent)
        self.assertEqual(laid_open(lent), laid_open(handed))
        parts = lists_within([first, second])[1:]
        self.assertEqual(len({id(part) for part in parts}), len(parts))
        spoil(first)
        self.assertEqual(second, wanted)
        self.assertEqual(laid_open(lent), laid_open(handed))
        self.assertEqual(function(*lent), wanted)
        spoil(lent)
        self.assertEqual(second, wanted)

    @contextlib.contextmanager
    def hold_good_time(self, seconds=30):
        start = time.monotonic()
        yield
        self.assertLess(time.monotonic() - start, seconds)
