"""Sharings judged (points 3, 9 and 10)."""

import random
import unittest
from fractions import Fraction

from helper import (
    BIG, Case, all_groups, come_by_come, cut, drawn_homes, drawn_roads, paid_by, pair, plain, plain_cost, plain_way,
)
from roadshare.errors import NoSharing
from roadshare.evens import even_shares
from roadshare.judging import judged, look_sharing
from roadshare.trees import Tree

#     0 (market: inn)
#    / \
#   2   5
#  / \   \
# 4   1   3
ROADS = [(2, (1, 2)), (0, (3, 1)), (5, (0, 1)), (2, (2, 3)), (0, (7, 1))]
HOMES = {"mill": 4, "oak": 1, "ash": 1, "inn": 0, "elm": 3}
EVEN = {"ash": (5, 4), "elm": (7, 1), "inn": (0, 1), "mill": (5, 3), "oak": (5, 4)}


def told_sharing(shares):
    return {name: pair(Fraction(share)) for name, share in shares.items()}


def is_good(roads, homes, sharing):
    """Gone through all groups: none pays more than it costs."""
    for group in all_groups(homes):
        if paid_by(sharing, group) > plain_cost(roads, homes, group):
            return False
    return True


def moved(rng, sharing, amount):
    """The sharing where one of two unlike villages hands an amount to the other one."""
    made = dict(sharing)
    one, other = rng.sample(sorted(sharing), 2)
    made[one] = pair(plain(made[one]) - amount)
    made[other] = pair(plain(made[other]) + amount)
    return made


def drawn_shares(rng, roads, homes):
    """Shares that come to the cost of all villages, of any sign."""
    names = sorted(homes)
    whole = plain_cost(roads, homes, names)
    shares = {name: whole * rng.randrange(-2, 8) / 6 for name in names}
    if names:
        last = rng.choice(names)
        shares[last] += whole - sum(shares.values())
    return told_sharing(shares)


def drawn_sharings(rng, roads, homes):
    even = even_shares(Tree(roads), homes)
    rows = come_by_come(rng, roads, homes)
    sharings = [even, rows] + [drawn_shares(rng, roads, homes) for turn in range(3)]
    if len(homes) > 1:
        whole = plain_cost(roads, homes, homes)
        for start in (even, rows):
            for amount in (whole / 9, whole / 3, Fraction(1, BIG), -whole / 20):
                sharings.append(moved(rng, start, amount))
    return sharings


class JudgingCase(Case):
    def hold_table(self, roads, homes, sharing, table):
        self.assertIs(type(table), list)
        pairs = []
        by_road = {}
        by_name = {name: Fraction(0) for name in homes}
        for row in table:
            self.assertIs(type(row), tuple)
            road, name, amount = row
            self.hold_fraction(amount, amount)
            self.assertGreater(amount[0], 0)
            self.assertIn(road, plain_way(roads, homes[name]))
            pairs.append((road, name))
            by_road[road] = by_road.get(road, Fraction(0)) + plain(amount)
            by_name[name] += plain(amount)
        self.assertEqual(pairs, sorted(set(pairs)))
        for k in {k for name in homes for k in plain_way(roads, homes[name])}:
            self.assertEqual(by_road.get(k, Fraction(0)), plain(roads[k - 1][1]))
        for name in homes:
            self.assertEqual(by_name[name], plain(sharing[name]))

    def hold_group(self, roads, homes, sharing, group):
        self.assertIs(type(group), list)
        self.assertGreater(len(group), 0)
        self.assertEqual(group, sorted(set(group)))
        self.assertLessEqual(set(group), set(homes))
        self.assertGreater(paid_by(sharing, group), plain_cost(roads, homes, group))

    def hold_judged(self, roads, homes, sharing):
        """The answer holds what it tells; back comes which one it is."""
        tree = Tree(roads)
        self.assertIsNone(look_sharing(tree, homes, sharing))
        told = judged(tree, homes, sharing)
        self.assertIs(type(told), tuple)
        self.assertEqual(len(told), 2)
        self.assertIn(told[0], ("good", "refused"))
        if told[0] == "good":
            self.hold_table(roads, homes, sharing, told[1])
        else:
            self.hold_group(roads, homes, sharing, told[1])
        return told[0]

    def hold_no_sharing(self, roads, homes, sharing):
        self.hold_refused(NoSharing, look_sharing, Tree(roads), homes, sharing)
        self.hold_refused(NoSharing, judged, Tree(roads), homes, sharing)


class NoSharingTest(JudgingCase):
    def test_a_village_left_out(self):
        for name in HOMES:
            sharing = {other: share for other, share in EVEN.items() if other != name}
            with self.subTest(name=name):
                self.hold_no_sharing(ROADS, HOMES, sharing)
        # The sum is right, yet the village at the market is left out.
        self.hold_no_sharing([(0, (1, 1))], {"a": 1, "b": 0}, {"a": (1, 1)})
        self.hold_no_sharing([(0, (1, 1))], {"a": 1}, {})
        self.hold_no_sharing([], {"a": 0}, {})

    def test_one_more(self):
        self.hold_no_sharing(ROADS, HOMES, dict(EVEN, other=(0, 1)))
        self.hold_no_sharing(ROADS, HOMES, dict(EVEN, other=(1, 1)))
        self.hold_no_sharing([], {}, {"a": (0, 1)})

    def test_another_name(self):
        for name in HOMES:
            sharing = {("other" if one == name else one): share for one, share in EVEN.items()}
            with self.subTest(name=name):
                self.hold_no_sharing(ROADS, HOMES, sharing)
        for other in ("", "Oak", "oak ", "0", "no name at all"):
            sharing = {(other if one == "oak" else one): share for one, share in EVEN.items()}
            with self.subTest(other=other):
                self.hold_no_sharing(ROADS, HOMES, sharing)

    def test_a_sum_that_is_too_great_or_too_small(self):
        for name in HOMES:
            for more in (1, -1, Fraction(1, BIG), Fraction(-1, BIG), 100, -100):
                sharing = dict(EVEN)
                sharing[name] = pair(plain(sharing[name]) + more)
                with self.subTest(name=name, more=more):
                    self.hold_no_sharing(ROADS, HOMES, sharing)
        self.hold_no_sharing([], {"a": 0}, {"a": (1, 1)})
        self.hold_no_sharing([], {"a": 0}, {"a": (-1, 1)})

    def test_roads_that_nobody_needs_are_not_shared_out(self):
        roads = [(0, (1, 1)), (1, (2, 1))]
        self.hold_no_sharing(roads, {"a": 1}, {"a": (3, 1)})
        self.assertEqual(judged(Tree(roads), {"a": 1}, {"a": (1, 1)}), ("good", [(1, "a", (1, 1))]))


class WrittenOutTest(JudgingCase):
    def test_no_villages(self):
        for roads in ([], ROADS):
            self.assertIsNone(look_sharing(Tree(roads), {}, {}))
            self.assertEqual(judged(Tree(roads), {}, {}), ("good", []))

    def test_one_village(self):
        tree = Tree(ROADS)
        self.assertEqual(judged(tree, {"a": 4}, {"a": (11, 3)}), ("good", [(2, "a", (3, 1)), (4, "a", (2, 3))]))
        self.assertEqual(judged(tree, {"a": 3}, {"a": (7, 1)}), ("good", [(5, "a", (7, 1))]))
        self.assertEqual(judged(tree, {"a": 0}, {"a": (0, 1)}), ("good", []))

    def test_two_villages_on_one_road(self):
        tree = Tree([(0, (4, 1))])
        homes = {"b": 1, "a": 1}
        for shares, wanted in [
            ((1, 3), ("good", [(1, "a", (1, 1)), (1, "b", (3, 1))])),
            ((0, 4), ("good", [(1, "b", (4, 1))])),
            ((4, 0), ("good", [(1, "a", (4, 1))])),
            ((5, -1), ("refused", ["a"])),
            ((-1, 5), ("refused", ["b"])),
        ]:
            with self.subTest(shares=shares):
                self.assertEqual(judged(tree, homes, told_sharing(dict(zip("ab", shares)))), wanted)

    def test_two_villages_behind_one_another(self):
        tree = Tree([(0, (2, 1)), (1, (3, 1))])
        homes = {"near": 1, "far": 2}
        for near, wanted in [
            (0, ("good", [(1, "far", (2, 1)), (2, "far", (3, 1))])),
            (2, ("good", [(1, "near", (2, 1)), (2, "far", (3, 1))])),
            (Fraction(1, 2), ("good", [(1, "far", (3, 2)), (1, "near", (1, 2)), (2, "far", (3, 1))])),
            (Fraction(5, 2), ("refused", ["near"])),
            (5, ("refused", ["near"])),
            (-1, ("refused", ["far"])),
        ]:
            with self.subTest(near=near):
                self.assertEqual(judged(tree, homes, told_sharing({"near": near, "far": 5 - near})), wanted)

    def test_only_a_group_of_several_pays_too_much(self):
        roads = [(0, (6, 1)), (1, (0, 1)), (1, (0, 1)), (0, (6, 1))]
        homes = {"a": 2, "b": 3, "c": 4}
        sharing = told_sharing({"a": 4, "b": 4, "c": 4})
        self.assertEqual(judged(Tree(roads), homes, sharing), ("refused", ["a", "b"]))

    def test_a_village_at_the_market_pays(self):
        self.assertEqual(self.hold_judged(ROADS, HOMES, dict(EVEN, inn=(1, 1), elm=(6, 1))), "refused")
        self.assertEqual(self.hold_judged(ROADS, HOMES, dict(EVEN, inn=(-1, 1), elm=(8, 1))), "refused")
        self.assertEqual(self.hold_judged([], {"a": 0, "b": 0}, {"a": (1, 2), "b": (-1, 2)}), "refused")
        self.assertEqual(self.hold_judged([], {"a": 0, "b": 0}, {"a": (0, 1), "b": (0, 1)}), "good")

    def test_roads_with_the_price_0_are_paid_by_nobody(self):
        roads = [(0, (0, 1)), (1, (0, 1)), (2, (1, 1))]
        told = judged(Tree(roads), {"a": 2, "b": 3}, {"a": (0, 1), "b": (1, 1)})
        self.assertEqual(told, ("good", [(3, "b", (1, 1))]))
        self.assertEqual(judged(Tree(roads), {"a": 2, "b": 2}, {"a": (0, 1), "b": (0, 1)}), ("good", []))
        told = judged(Tree(roads), {"a": 2, "b": 3}, {"a": (1, 1), "b": (0, 1)})
        self.assertEqual(told, ("refused", ["a"]))

    def test_the_table_is_sorted_by_numbers_and_then_by_names(self):
        roads = [(k - 1, (1, 1)) for k in range(1, 13)]
        homes = {"b": 12, "a": 12}
        told = judged(Tree(roads), {"a": 12}, {"a": (12, 1)})
        self.assertEqual(told, ("good", [(k, "a", (1, 1)) for k in range(1, 13)]))
        self.assertEqual(self.hold_judged(roads, homes, {"b": (5, 2), "a": (19, 2)}), "good")
        self.assertEqual(self.hold_judged(roads, homes, {"b": (1, 2), "a": (23, 2)}), "good")

    def test_the_arguments_have_their_names(self):
        self.assertIsNone(look_sharing(tree=Tree(ROADS), homes=HOMES, sharing=EVEN))
        self.assertEqual(judged(tree=Tree(ROADS), homes=HOMES, sharing=EVEN)[0], "good")


class DrawnTest(JudgingCase):
    def test_good_just_where_no_group_pays_more_than_it_costs(self):
        rng = random.Random(12)
        seen = {"good": 0, "refused": 0}
        for turn in range(250):
            roads = drawn_roads(rng, rng.choice([0, 1, 2, 3, 4, 6, 8, 12]))
            homes = drawn_homes(rng, len(roads) + 1, turn % 6)
            for sharing in drawn_sharings(rng, roads, homes):
                with self.subTest(roads=roads, homes=homes, sharing=sharing):
                    told = self.hold_judged(roads, homes, sharing)
                    self.assertEqual(told == "good", is_good(roads, homes, sharing))
                    seen[told] += 1
        self.assertGreater(min(seen.values()), 500)

    def test_the_even_sharing_is_good(self):
        rng = random.Random(13)
        for turn in range(60):
            roads = drawn_roads(rng, rng.choice([0, 1, 4, 10, 40]))
            homes = drawn_homes(rng, len(roads) + 1, rng.randrange(13))
            with self.subTest(roads=roads, homes=homes):
                self.assertEqual(self.hold_judged(roads, homes, even_shares(Tree(roads), homes)), "good")

    def test_twelve_villages_and_forty_roads(self):
        rng = random.Random(14)
        seen = {"good": 0, "refused": 0}
        for turn in range(25):
            roads = drawn_roads(rng, 40)
            homes = drawn_homes(rng, 41, 12)
            for sharing in drawn_sharings(rng, roads, homes):
                with self.subTest(roads=roads, homes=homes, sharing=sharing):
                    seen[self.hold_judged(roads, homes, sharing)] += 1
        self.assertGreater(min(seen.values()), 40)

    def test_shares_of_four_hundred_figures(self):
        tiny = Fraction(1, 10 ** 399 + 7)
        tree_roads = [(0, (2, 1)), (1, (3, 1))]
        homes = {"near": 1, "far": 2}
        for near, wanted in [(2 - tiny, "good"), (2 + tiny, "refused"), (tiny, "good"), (-tiny, "refused")]:
            sharing = told_sharing({"near": near, "far": 5 - near})
            with self.subTest(wanted=wanted):
                self.assertEqual(self.hold_judged(tree_roads, homes, sharing), wanted)

    def test_a_road_cut_in_two_changes_no_verdict(self):
        rng = random.Random(15)
        for turn in range(30):
            roads = drawn_roads(rng, rng.choice([1, 2, 4, 8]))
            homes = drawn_homes(rng, len(roads) + 1, rng.randrange(1, 6))
            k = rng.randrange(1, len(roads) + 1)
            parted = cut(roads, k, plain(roads[k - 1][1]) / 3)
            for sharing in drawn_sharings(rng, roads, homes):
                with self.subTest(roads=roads, homes=homes, k=k, sharing=sharing):
                    told = self.hold_judged(roads, homes, sharing)
                    self.assertEqual(self.hold_judged(parted, homes, sharing), told)


class OwnTest(JudgingCase):
    GOOD = EVEN
    REFUSED = dict(EVEN, inn=(1, 1), elm=(6, 1))

    def test_what_is_handed_in_stays(self):
        for sharing in (self.GOOD, self.REFUSED, dict(EVEN, inn=(-1, 1), elm=(8, 1)), dict(EVEN, inn=(1, 1))):
            tree = Tree(ROADS)
            homes = dict(HOMES)
            handed = dict(sharing)
            for asked in (look_sharing, judged):
                try:
                    asked(tree, homes, handed)
                except NoSharing:
                    pass
            self.assertEqual(list(handed.items()), list(sharing.items()))
            self.assertEqual(list(homes.items()), list(HOMES.items()))
            self.assertEqual(tree.roads(), ROADS)

    def test_what_is_told_is_new(self):
        tree = Tree(ROADS)
        for sharing in (self.GOOD, self.REFUSED):
            self.hold_new_list(lambda: judged(tree, HOMES, sharing)[1])
        self.hold_new_list(lambda: judged(tree, {}, {})[1])

    def test_what_was_told_stays_when_what_was_handed_in_changes(self):
        for sharing in (self.GOOD, self.REFUSED):
            homes = dict(HOMES)
            handed = dict(sharing)
            told = judged(Tree(ROADS), homes, handed)
            homes.clear()
            handed.clear()
            self.assertEqual(told, judged(Tree(ROADS), HOMES, sharing))


if __name__ == "__main__":
    unittest.main()
