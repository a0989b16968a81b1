"""The third rule and its levels (points 3, 16 and 17)."""

import random
import unittest
from fractions import Fraction

from helper import (
    BIG, NAMES, Case, all_groups, come_by_come, cut, drawn_homes, drawn_roads, paid_by, pair, plain, plain_cost, rank,
)
from roadshare.costs import cost_of_all
from roadshare.errors import TooMany
from roadshare.evens import even_shares
from roadshare.groups import gains
from roadshare.judging import judged
from roadshare.stairs import evenest
from roadshare.thirds import levels, third
from roadshare.trees import Tree

#     0 (market: inn)
#    / \
#   2   5
#  / \   \
# 4   1   3
ROADS = [(2, (1, 2)), (0, (3, 1)), (5, (0, 1)), (2, (2, 3)), (0, (7, 1))]
HOMES = {"mill": 4, "oak": 1, "ash": 1, "inn": 0, "elm": 3}
ONE = (1, 1)


def plain_gains(roads, homes, sharing):
    groups = sorted(all_groups(homes)[1:-1], key=lambda group: (len(group), group))
    return [(group, plain_cost(roads, homes, group) - paid_by(sharing, group)) for group in groups]


def gains_from_the_least(roads, homes, sharing):
    return sorted(gain for group, gain in plain_gains(roads, homes, sharing))


def marks(names, groups):
    return [[Fraction(name in group) for name in sorted(names)] for group in groups]


def do_fix(names, groups):
    """Whether no two unlike dicts of shares have the same sums of these groups."""
    return rank(marks(names, groups)) == len(names)


def chain(costs):
    """Roads one behind the other, so that the way of the crossing k costs the k-th of some rising costs."""
    return [(k, pair(cost - before)) for k, (before, cost) in enumerate(zip([Fraction(0)] + costs, costs))]


def third_of_a_chain(costs):
    """The shares on a chain, one village at each road: those by the market pay least, in steps, the last the rest."""
    shares = []
    while len(shares) < len(costs) - 1:
        start, paid = len(shares), sum(shares)
        by_head = {k: (costs[k] - paid) / (k - start + 2) for k in range(start, len(costs) - 1)}
        share = min(by_head.values())
        shares += [share] * (max(k for k in by_head if by_head[k] == share) - start + 1)
    return shares + [costs[-1] - sum(shares)]


def other_sharings(rng, roads, homes):
    """Sharings that come to the cost of all: of other rules, of any sign, and hardly unlike the third rule's."""
    tree = Tree(roads)
    told = third(tree, homes)
    sharings = [even_shares(tree, homes), evenest(tree, homes)]
    sharings += [come_by_come(rng, roads, homes) for turn in range(3)]
    whole = plain(cost_of_all(tree, homes))
    for amount in (whole / 5, Fraction(1, BIG), Fraction(1, 7), whole):
        one, other = rng.sample(sorted(homes), 2)
        moved = {one: plain(told[one]) - amount, other: plain(told[other]) + amount}
        sharings.append(dict(told, **{name: pair(share) for name, share in moved.items()}))
    return [sharing for sharing in sharings if sharing != told]


class ThirdCase(Case):
    def hold_third(self, roads, homes):
        """What point 16 tells but for the gains."""
        tree = Tree(roads)
        told = third(tree, homes)
        self.assertIs(type(told), dict)
        self.assertEqual(sorted(told), sorted(homes))
        for share in told.values():
            self.hold_fraction(share, share)
        self.assertEqual(pair(paid_by(told, homes)), cost_of_all(tree, homes))
        self.assertEqual(judged(tree, homes, told)[0], "good")
        for one in homes:
            for other in homes:
                if homes[one] == homes[other]:
                    self.assertEqual(told[one], told[other])
        return told

    def hold_rows(self, homes, rows, wanted):
        """The rows have just the wanted groups, and weights above 0 that come to 1 for each village."""
        self.assertIs(type(rows), list)
        self.assertEqual([row[0] for row in rows], wanted)
        for row in rows:
            self.assertIs(type(row), tuple)
            group, weight = row
            self.assertIs(type(group), list)
            self.hold_fraction(weight, weight)
            self.assertGreater(weight[0], 0)
        for name in homes:
            self.assertEqual(sum(plain(weight) for group, weight in rows if name in group), 1)

    def hold_levels(self, roads, homes):
        """All that point 17 tells; it shows that no other sharing is better."""
        tree = Tree(roads)
        told = levels(tree, homes)
        known = plain_gains(roads, homes, self.hold_third(roads, homes))
        self.assertIs(type(told), list)
        rising = sorted({gain for group, gain in known})
        self.assertEqual([plain(level[0]) for level in told], rising[:len(told)])
        for place, level in enumerate(told):
            self.assertIs(type(level), tuple)
            gain, rows = level
            self.hold_fraction(gain, gain)
            groups = [group for group, other in known if other <= plain(gain)]
            self.hold_rows(homes, rows, groups)
            self.assertEqual(do_fix(homes, groups), place == len(told) - 1)
        self.assertEqual(len(told) > 0, len(homes) > 1)
        return told

    def hold_best(self, rng, roads, homes):
        """Where the gains from the least up are first unlike, the other sharing's is less."""
        own = gains_from_the_least(roads, homes, third(Tree(roads), homes))
        sharings = other_sharings(rng, roads, homes)
        for sharing in sharings:
            others = gains_from_the_least(roads, homes, sharing)
            self.assertNotEqual(own, others)
            self.assertGreater(own, others)
        return len(sharings)


class WrittenOutTest(ThirdCase):
    def hold(self, roads, homes, wanted):
        self.assertEqual(self.hold_third(roads, homes), wanted)
        self.hold_levels(roads, homes)

    def test_a_small_tree(self):
        self.hold(ROADS, HOMES, {"mill": (11, 6), "oak": (7, 6), "ash": (7, 6), "inn": (0, 1), "elm": (7, 1)})

    def test_no_village(self):
        for roads in ([], ROADS):
            self.hold(roads, {}, {})
            self.assertEqual(levels(Tree(roads), {}), [])

    def test_one_village(self):
        self.hold(ROADS, {"a": 4}, {"a": (11, 3)})
        self.hold(ROADS, {"a": 0}, {"a": (0, 1)})
        self.hold([], {"a": 0}, {"a": (0, 1)})
        self.assertEqual(levels(Tree(ROADS), {"a": 4}), [])

    def test_two_villages_gain_the_same(self):
        homes = {"oak": 1, "mill": 4}
        self.hold(ROADS, homes, {"oak": (2, 1), "mill": (13, 6)})
        self.assertEqual(levels(Tree(ROADS), homes), [((3, 2), [(["mill"], ONE), (["oak"], ONE)])])
        homes = {"oak": 1, "elm": 3}
        self.hold(ROADS, homes, {"oak": (7, 2), "elm": (7, 1)})
        self.assertEqual(levels(Tree(ROADS), homes), [((0, 1), [(["elm"], ONE), (["oak"], ONE)])])

    def test_three_behind_one_another(self):
        roads = [(0, ONE), (1, ONE), (2, ONE)]
        homes = {"a": 1, "b": 2, "c": 3}
        self.hold(roads, homes, {"a": (1, 2), "b": (3, 4), "c": (7, 4)})
        told = levels(Tree(roads), homes)
        self.assertEqual(told[0], ((1, 2), [(["a"], ONE), (["b", "c"], ONE)]))
        self.assertEqual(told[1][0], (3, 4))
        self.assertEqual([group for group, weight in told[1][1]], [["a"], ["a", "b"], ["a", "c"], ["b", "c"]])
        self.assertEqual(len(told), 2)

    def test_all_at_the_market(self):
        for many in range(2, 7):
            homes = {name: 0 for name in NAMES[:many]}
            for roads in ([], ROADS):
                self.hold(roads, homes, {name: (0, 1) for name in homes})
                self.assertEqual(len(levels(Tree(roads), homes)), 1)

    def test_several_at_one_crossing(self):
        for many in range(2, 7):
            homes = {name: 1 for name in NAMES[:many]}
            self.hold([(0, (5, 1))], homes, {name: pair(Fraction(5, many)) for name in homes})

    def test_each_on_a_road_of_its_own(self):
        roads = [(0, (k, 1)) for k in range(1, 7)]
        homes = {name: k for k, name in enumerate(NAMES[:6], start=1)}
        self.hold(roads, homes, {name: (homes[name], 1) for name in homes})
        self.assertEqual([level[0] for level in levels(Tree(roads), homes)], [(0, 1)])

    def test_roads_with_the_price_0(self):
        roads = [(0, (0, 1)), (1, (0, 1)), (2, (3, 1)), (3, (0, 1))]
        self.hold(roads, {"d": 4, "a": 0, "c": 3, "b": 2}, {"a": (0, 1), "b": (0, 1), "c": (3, 2), "d": (3, 2)})
        self.hold([(0, (0, 1))] * 3, {"a": 1, "b": 2, "c": 3}, {"a": (0, 1), "b": (0, 1), "c": (0, 1)})

    def test_roads_that_nobody_needs(self):
        roads = [(0, (4, 1)), (1, (8, 1)), (0, (0, 1)), (3, (1, BIG))]
        self.hold(roads, {"a": 1, "b": 1}, {"a": (2, 1), "b": (2, 1)})

    def test_prices_of_many_figures(self):
        roads = [(0, (BIG, BIG - 1)), (1, (BIG, 1)), (0, (1, BIG))]
        half = Fraction(BIG, BIG - 1) / 2
        homes = {"a": 1, "b": 2, "c": 3}
        self.hold(roads, homes, {"a": pair(half), "b": pair(half + BIG), "c": (1, BIG)})

    def test_what_came_of_cuts_has_more_figures(self):
        roads = [(0, (10 ** 399 + 7, 10 ** 398 + 9)), (1, (10 ** 400 - 1, 10 ** 399 + 1)), (1, (1, 10 ** 399 + 7))]
        self.hold_levels([(to, pair(Fraction(*price))) for to, price in roads], {"a": 1, "b": 2, "c": 3, "d": 3})

    def test_the_arguments_have_their_names(self):
        self.assertEqual(third(tree=Tree(ROADS), homes={"a": 4}), {"a": (11, 3)})
        self.assertEqual(levels(tree=Tree(ROADS), homes={"a": 4}), [])


class TooManyTest(ThirdCase):
    def test_seven_and_more(self):
        for many in range(7, 13):
            for crossings in (1, 2, 6):
                homes = {name: k % crossings for k, name in enumerate(NAMES[:many])}
                with self.subTest(homes=homes):
                    self.hold_refused(TooMany, third, Tree(ROADS), homes)
                    self.hold_refused(TooMany, levels, Tree(ROADS), homes)
        self.hold_refused(TooMany, third, Tree([]), {name: 0 for name in NAMES[:7]})
        self.hold_refused(TooMany, levels, Tree([]), {name: 0 for name in NAMES[:7]})

    def test_what_is_handed_in_stays(self):
        homes = {name: k % 6 for k, name in enumerate(NAMES[:7])}
        kept = list(homes.items())
        tree = Tree(ROADS)
        for function in (third, levels):
            self.hold_refused(TooMany, function, tree, homes)
        self.assertEqual(list(homes.items()), kept)
        self.assertEqual(tree.roads(), ROADS)


class DrawnTest(ThirdCase):
    def test_levels_show_that_no_other_sharing_is_better(self):
        rng = random.Random(41)
        many = {}
        for turn in range(140):
            roads = drawn_roads(rng, rng.choice([0, 1, 2, 3, 4, 6, 8, 12, 20]))
            homes = drawn_homes(rng, len(roads) + 1, turn % 7)
            with self.subTest(roads=roads, homes=homes):
                told = self.hold_levels(roads, homes)
                many[min(len(told), 4)] = many.get(min(len(told), 4), 0) + 1
        self.assertGreater(min(many[count] for count in range(5)), 5)

    def test_whole_prices_that_are_often_alike(self):
        rng = random.Random(42)
        for turn in range(80):
            roads = [(to, (rng.randrange(4), 1)) for to, price in drawn_roads(rng, rng.choice([2, 3, 4, 6, 8]))]
            homes = drawn_homes(rng, len(roads) + 1, rng.randrange(2, 7))
            with self.subTest(roads=roads, homes=homes):
                self.hold_levels(roads, homes)

    def test_gains_against_those_of_other_sharings(self):
        rng = random.Random(43)
        unlike = 0
        for turn in range(80):
            roads = drawn_roads(rng, rng.choice([1, 2, 3, 4, 8, 12, 40]))
            homes = drawn_homes(rng, len(roads) + 1, 2 + turn % 5)
            with self.subTest(roads=roads, homes=homes):
                unlike += self.hold_best(rng, roads, homes)
        self.assertGreater(unlike, 350)

    def test_chains_of_roads(self):
        rng = random.Random(44)
        for turn in range(60):
            many = 1 + turn % 6
            costs = sorted(Fraction(rng.randrange(60), rng.choice([1, 1, 7])) for k in range(many))
            homes = dict(zip(rng.sample(NAMES, many), range(1, many + 1)))
            wanted = third_of_a_chain(costs)
            with self.subTest(costs=costs):
                told = self.hold_third(chain(costs), homes)
                self.assertEqual({name: plain(told[name]) for name in homes}, {
                    name: wanted[homes[name] - 1] for name in homes
                })

    def test_the_order_of_the_homes_changes_nothing(self):
        rng = random.Random(45)
        for turn in range(20):
            roads = drawn_roads(rng, 8)
            homes = drawn_homes(rng, 9, rng.randrange(2, 7))
            turned = dict(rng.sample(list(homes.items()), len(homes)))
            self.assertEqual(third(Tree(roads), turned), third(Tree(roads), homes))
            self.hold_levels(roads, turned)

    def test_a_road_cut_in_two_changes_no_share(self):
        rng = random.Random(46)
        for turn in range(30):
            roads = drawn_roads(rng, rng.choice([1, 2, 4, 8, 39]))
            homes = drawn_homes(rng, len(roads) + 1, rng.randrange(7))
            k = rng.randrange(1, len(roads) + 1)
            price = plain(roads[k - 1][1])
            for part in (Fraction(0), price / 3, price):
                parted = cut(roads, k, part)
                with self.subTest(roads=roads, homes=homes, k=k, part=part):
                    self.assertEqual(third(Tree(parted), homes), third(Tree(roads), homes))
                    risen = [level[0] for level in levels(Tree(roads), homes)]
                    self.assertEqual([level[0] for level in levels(Tree(parted), homes)], risen)

    def test_the_gains_are_those_that_are_told_of_its_sharing(self):
        rng = random.Random(47)
        for turn in range(20):
            roads = drawn_roads(rng, 6)
            homes = drawn_homes(rng, 7, 2 + turn % 5)
            tree = Tree(roads)
            told = gains(tree, homes, third(tree, homes))
            last, rows = levels(tree, homes)[-1]
            self.assertEqual([row[0] for row in rows], [group for group, gain in told if plain(gain) <= plain(last)])

    def test_forty_roads_and_six_villages_in_good_time(self):
        rng = random.Random(48)
        with self.hold_good_time():
            for turn in range(10):
                prices = [pair(Fraction(rng.randrange(1, BIG), rng.randrange(1, BIG))) for k in range(40)]
                ends = range(40) if turn % 2 else [road[0] for road in drawn_roads(rng, 40)]
                roads = list(zip(ends, prices))
                homes = drawn_homes(rng, 41, 6)
                if turn == 1:
                    homes = {name: 35 + k for k, name in enumerate(NAMES[:6])}
                with self.subTest(turn=turn):
                    self.hold_levels(roads, homes)


class OwnTest(ThirdCase):
    def test_what_is_told_is_new_and_what_is_handed_in_stays(self):
        for roads, homes in [
            (ROADS, HOMES), (ROADS, {"a": 4}), (ROADS, {"b": 0, "a": 0}), (ROADS, {"b": 1, "a": 4}), (ROADS, {}),
            ([], {}), ([], {"b": 0, "a": 0}),
            ([(0, ONE), (1, ONE), (2, ONE)], {"c": 3, "a": 1, "b": 2}),
        ]:
            for function in (third, levels):
                with self.subTest(function=function, homes=homes):
                    self.hold_own(function, Tree(roads), homes)


if __name__ == "__main__":
    unittest.main()
