"""The evenest sharing and its stairs (points 3, 11 and 12)."""

import random
import unittest
from fractions import Fraction

from helper import (
    BIG, Case, all_groups, come_by_come, cut, drawn_homes, drawn_roads, paid_by, pair, plain, plain_cost, plain_needed,
)
from roadshare.costs import cost_of_all
from roadshare.evens import even_shares
from roadshare.judging import judged
from roadshare.stairs import evenest, stairs
from roadshare.trees import Tree

#     0 (market: inn)
#    / \
#   2   5
#  / \   \
# 4   1   3
ROADS = [(2, (1, 2)), (0, (3, 1)), (5, (0, 1)), (2, (2, 3)), (0, (7, 1))]
HOMES = {"mill": 4, "oak": 1, "ash": 1, "inn": 0, "elm": 3}


def left_over(roads, homes, ahead):
    """The cost of each group of the villages that are left, where the roads of those ahead cost nothing."""
    paid = plain_needed(roads, homes, ahead)
    left = [name for name in homes if name not in ahead]
    costs = {}
    for group in all_groups(left)[1:]:
        roads_left = plain_needed(roads, homes, group) - paid
        costs[tuple(group)] = sum((plain(roads[k - 1][1]) for k in roads_left), Fraction(0))
    return costs


def plain_stairs(roads, homes):
    """The stairs, each found by going through all groups of the villages that are left."""
    told = []
    ahead = []
    while len(ahead) < len(homes):
        costs = left_over(roads, homes, ahead)
        share = min(costs[group] / len(group) for group in costs)
        alike = [group for group in costs if costs[group] / len(group) == share]
        greatest = max(alike, key=len)
        assert all(set(group) <= set(greatest) for group in alike)
        ahead = sorted(ahead + list(greatest))
        told.append((ahead, pair(share)))
    return told


def mixed(rng, sharings):
    """The mean of some sharings, each taken a drawn number of times."""
    counts = [rng.choice([0, 1, 1, 2, 5]) for sharing in sharings]
    counts[0] += 1
    return {
        name: pair(sum(plain(one[name]) * count for one, count in zip(sharings, counts)) / sum(counts))
        for name in sharings[0]
    }


def good_sharings(rng, roads, homes):
    """Good ones: what each adds in some orders of coming, means of these and of the even and the evenest sharing."""
    tree = Tree(roads)
    orders = [come_by_come(rng, roads, homes) for turn in range(4)]
    even = even_shares(tree, homes)
    near = [evenest(tree, homes)] * 6 + orders[:1]
    return orders + [even, mixed(rng, orders), mixed(rng, orders + [even]), mixed(rng, near)]


class StairsCase(Case):
    def hold_stairs(self, roads, homes):
        """What point 11 tells of the groups and the shares, but for the least cost by head."""
        told = stairs(Tree(roads), homes)
        self.assertIs(type(told), list)
        ahead = []
        share_ahead = Fraction(-1)
        paid = Fraction(0)
        for stair in told:
            self.assertIs(type(stair), tuple)
            self.assertEqual(len(stair), 2)
            group, share = stair
            self.hold_list(group, sorted(set(group)))
            self.assertGreater(len(group), len(ahead))
            self.assertLessEqual(set(ahead), set(group))
            self.hold_fraction(share, share)
            self.assertGreater(plain(share), share_ahead)
            paid += plain(share) * (len(group) - len(ahead))
            self.assertEqual(paid, plain_cost(roads, homes, group))
            ahead = group
            share_ahead = plain(share)
        self.assertEqual(ahead, sorted(homes))
        return told

    def hold_evenest(self, roads, homes):
        tree = Tree(roads)
        told = evenest(tree, homes)
        self.assertIs(type(told), dict)
        self.assertEqual(sorted(told), sorted(homes))
        for share in told.values():
            self.hold_fraction(share, share)
        self.assertEqual(pair(paid_by(told, told)), cost_of_all(tree, homes))
        self.assertEqual(judged(tree, homes, told)[0], "good")
        for name in homes:
            first = [share for group, share in stairs(tree, homes) if name in group][0]
            self.assertEqual(told[name], first)
        return told

    def hold_nothing_handed_on(self, roads, homes):
        """Who pays more than another one: a told group with that one and without the first pays just what it costs."""
        told = evenest(Tree(roads), homes)
        groups = [group for group, share in stairs(Tree(roads), homes)]
        paying = [group for group in groups if paid_by(told, group) == plain_cost(roads, homes, group)]
        for one in homes:
            for other in homes:
                if plain(told[one]) > plain(told[other]):
                    self.assertTrue([group for group in paying if other in group and one not in group])

    def hold_alike_at_one_crossing(self, homes, told):
        for one in homes:
            if homes[one] == 0:
                self.assertEqual(told[one], (0, 1))
            for other in homes:
                if homes[one] == homes[other]:
                    self.assertEqual(told[one], told[other])


class WrittenOutTest(StairsCase):
    def hold(self, roads, homes, wanted):
        told = self.hold_stairs(roads, homes)
        self.assertEqual(told, wanted)
        self.hold_evenest(roads, homes)

    def test_a_small_tree(self):
        # mill alone would add 2/3: less than ash and oak pay, so they share the road 2 with it.
        self.hold(ROADS, HOMES, [
            (["inn"], (0, 1)),
            (["ash", "inn", "mill", "oak"], (25, 18)),
            (["ash", "elm", "inn", "mill", "oak"], (7, 1)),
        ])
        shares = {"ash": (25, 18), "elm": (7, 1), "inn": (0, 1), "mill": (25, 18), "oak": (25, 18)}
        self.assertEqual(evenest(Tree(ROADS), HOMES), shares)

    def test_no_village(self):
        for roads in ([], ROADS):
            self.hold(roads, {}, [])
            self.assertEqual(evenest(Tree(roads), {}), {})

    def test_one_village(self):
        self.hold(ROADS, {"a": 4}, [(["a"], (11, 3))])
        self.hold(ROADS, {"a": 0}, [(["a"], (0, 1))])
        self.hold([], {"a": 0}, [(["a"], (0, 1))])
        self.assertEqual(evenest(Tree(ROADS), {"a": 4}), {"a": (11, 3)})

    def test_all_at_the_market(self):
        for roads in ([], ROADS):
            self.hold(roads, {"c": 0, "a": 0, "b": 0}, [(["a", "b", "c"], (0, 1))])

    def test_several_at_one_crossing(self):
        self.hold([(0, (5, 1))], {"c": 1, "a": 1, "b": 1}, [(["a", "b", "c"], (5, 3))])
        self.hold([(0, (6, 1)), (1, (1, 1))], {"c": 2, "a": 1, "b": 1}, [(["a", "b", "c"], (7, 3))])
        homes = {"c": 2, "a": 1, "b": 1}
        self.hold([(0, (6, 1)), (1, (4, 1))], homes, [(["a", "b"], (3, 1)), (["a", "b", "c"], (4, 1))])

    def test_of_groups_that_cost_alike_by_head_the_greatest(self):
        # Each alone, each two, and all three cost 2 by head.
        self.hold([(0, (2, 1))] * 3, {"a": 1, "b": 2, "c": 3}, [(["a", "b", "c"], (2, 1))])
        # The far one adds just as much as the near ones pay.
        self.hold([(0, (4, 1)), (1, (2, 1))], {"a": 1, "b": 1, "far": 2}, [(["a", "b", "far"], (2, 1))])
        # Also behind the first stair.
        roads = [(0, (1, 1)), (0, (3, 1)), (0, (6, 1))]
        self.hold(roads, {"a": 1, "b": 2, "c": 3, "d": 3}, [(["a"], (1, 1)), (["a", "b", "c", "d"], (3, 1))])

    def test_a_price_hardly_above_or_below(self):
        tiny = Fraction(1, BIG)
        homes = {"a": 1, "b": 1, "far": 2}
        for more, wanted in [
            (tiny, [(["a", "b"], (2, 1)), (["a", "b", "far"], pair(2 + tiny))]),
            (-tiny, [(["a", "b", "far"], pair((6 - tiny) / 3))]),
        ]:
            self.hold([(0, (4, 1)), (1, pair(2 + more))], homes, wanted)

    def test_the_roads_of_the_group_ahead_cost_nothing(self):
        # a goes ahead for 1; then b adds 2, though alone it would pay 3, and c adds 5/2, though it is alone there.
        roads = [(0, (1, 1)), (1, (2, 1)), (0, (5, 2))]
        self.hold(roads, {"a": 1, "b": 2, "c": 3}, [
            (["a"], (1, 1)), (["a", "b"], (2, 1)), (["a", "b", "c"], (5, 2)),
        ])

    def test_roads_with_the_price_0(self):
        roads = [(0, (0, 1)), (1, (0, 1)), (2, (3, 1)), (3, (0, 1))]
        self.hold(roads, {"d": 4, "a": 0, "c": 3, "b": 2}, [(["a", "b"], (0, 1)), (["a", "b", "c", "d"], (3, 2))])
        self.hold([(0, (0, 1))], {"a": 1}, [(["a"], (0, 1))])

    def test_roads_that_nobody_needs(self):
        roads = [(0, (4, 1)), (1, (8, 1)), (0, (0, 1)), (3, (1, BIG))]
        self.hold(roads, {"a": 1, "b": 1}, [(["a", "b"], (2, 1))])
        self.hold(roads, {"a": 3}, [(["a"], (0, 1))])

    def test_prices_of_many_figures(self):
        roads = [(0, (BIG, BIG - 1)), (1, (BIG, 1)), (0, (1, BIG))]
        self.hold(roads, {"a": 1, "b": 2, "c": 3}, [
            (["c"], (1, BIG)), (["a", "c"], (BIG, BIG - 1)), (["a", "b", "c"], (BIG, 1)),
        ])

    def test_a_stair_for_each_of_twelve_villages(self):
        roads = [(k - 1, (k, 1)) for k in range(1, 13)]
        names = "abcdefghijkl"
        homes = {name: k for k, name in enumerate(names, start=1)}
        self.hold(roads, homes, [(list(names[:k]), (k, 1)) for k in range(1, 13)])

    def test_names_are_sorted_as_texts(self):
        self.hold([(0, (1, 1))], {"b": 1, "abc": 1, "ab": 1, "a": 1, "z": 1}, [(["a", "ab", "abc", "b", "z"], (1, 5))])

    def test_the_arguments_have_their_names(self):
        self.assertEqual(stairs(tree=Tree(ROADS), homes={"a": 4}), [(["a"], (11, 3))])
        self.assertEqual(evenest(tree=Tree(ROADS), homes={"a": 4}), {"a": (11, 3)})


class DrawnTest(StairsCase):
    def test_each_stair_against_all_groups_of_the_villages_that_are_left(self):
        rng = random.Random(21)
        many = {}
        for turn in range(300):
            roads = drawn_roads(rng, rng.choice([0, 1, 2, 3, 4, 6, 8, 12, 20]))
            homes = drawn_homes(rng, len(roads) + 1, turn % 6)
            with self.subTest(roads=roads, homes=homes):
                told = self.hold_stairs(roads, homes)
                self.assertEqual(told, plain_stairs(roads, homes))
                many[len(told)] = many.get(len(told), 0) + 1
        self.assertGreater(min(many[count] for count in range(4)), 20)

    def test_whole_prices_that_are_often_alike(self):
        rng = random.Random(22)
        for turn in range(200):
            roads = [(to, (rng.randrange(4), 1)) for to, price in drawn_roads(rng, rng.choice([2, 3, 4, 6, 8]))]
            homes = drawn_homes(rng, len(roads) + 1, rng.randrange(2, 6))
            with self.subTest(roads=roads, homes=homes):
                self.assertEqual(self.hold_stairs(roads, homes), plain_stairs(roads, homes))

    def test_the_evenest_sharing(self):
        rng = random.Random(23)
        for turn in range(100):
            roads = drawn_roads(rng, rng.choice([0, 1, 2, 4, 8, 20, 40]))
            homes = drawn_homes(rng, len(roads) + 1, rng.randrange(13))
            with self.subTest(roads=roads, homes=homes):
                self.hold_stairs(roads, homes)
                self.hold_alike_at_one_crossing(homes, self.hold_evenest(roads, homes))
                self.hold_nothing_handed_on(roads, homes)

    def test_no_good_sharing_is_evener(self):
        rng = random.Random(24)
        unlike = 0
        for turn in range(120):
            roads = drawn_roads(rng, rng.choice([1, 2, 3, 4, 8, 12]))
            homes = drawn_homes(rng, len(roads) + 1, rng.randrange(1, 7))
            told = evenest(Tree(roads), homes)
            own = sorted(plain(share) for share in told.values())
            for sharing in good_sharings(rng, roads, homes):
                with self.subTest(roads=roads, homes=homes, sharing=sharing):
                    self.assertEqual(judged(Tree(roads), homes, sharing)[0], "good")
                    other = sorted(plain(share) for share in sharing.values())
                    for k in range(len(own) + 1):
                        self.assertLessEqual(sum(other[:k]), sum(own[:k]))
                    squares = sum(share * share for share in other) - sum(share * share for share in own)
                    self.assertEqual(squares > 0, sharing != told)
                    self.assertGreaterEqual(squares, 0)
                    unlike += sharing != told
        self.assertGreater(unlike, 300)

    def test_a_road_cut_in_two_changes_no_share(self):
        rng = random.Random(25)
        for turn in range(40):
            roads = drawn_roads(rng, rng.choice([1, 2, 4, 8, 39]))
            homes = drawn_homes(rng, len(roads) + 1, rng.randrange(13))
            told = stairs(Tree(roads), homes)
            k = rng.randrange(1, len(roads) + 1)
            price = plain(roads[k - 1][1])
            for part in (Fraction(0), price / 3, price):
                with self.subTest(roads=roads, homes=homes, k=k, part=part):
                    self.assertEqual(stairs(Tree(cut(roads, k, part)), homes), told)

    def test_forty_roads_and_twelve_villages_in_good_time(self):
        rng = random.Random(26)
        with self.hold_good_time():
            for turn in range(30):
                prices = [pair(Fraction(rng.randrange(1, BIG), rng.randrange(1, BIG))) for k in range(40)]
                roads = [(road[0], price) for road, price in zip(drawn_roads(rng, 40), prices)]
                homes = drawn_homes(rng, 41, 12)
                with self.subTest(turn=turn):
                    self.hold_stairs(roads, homes)
                    self.hold_evenest(roads, homes)
                    self.hold_nothing_handed_on(roads, homes)


class OwnTest(StairsCase):
    def test_what_is_told_is_new_and_what_is_handed_in_stays(self):
        for roads, homes in [(ROADS, HOMES), (ROADS, {"a": 4}), (ROADS, {"b": 0, "a": 0}), (ROADS, {}), ([], {})]:
            for function in (stairs, evenest):
                with self.subTest(function=function, homes=homes):
                    self.hold_own(function, Tree(roads), homes)

    def test_the_tree_stays(self):
        tree = Tree(ROADS)
        first = stairs(tree, HOMES)
        evenest(tree, HOMES)
        self.assertEqual(tree.roads(), ROADS)
        self.assertEqual(stairs(tree, HOMES), first)


if __name__ == "__main__":
    unittest.main()
