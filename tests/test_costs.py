"""What groups of villages need and what that costs (point 7)."""

import random
import unittest

from helper import BIG, NOWHERE, Case, all_groups, drawn_homes, drawn_roads, pair, plain_cost, plain_needed, plain_way
from roadshare.costs import cost, cost_of_all, needed, users
from roadshare.errors import NoPlace
from roadshare.trees import Tree

#     0 (market: inn)
#    / \
#   2   5
#  / \   \
# 4   1   3
ROADS = [(2, (1, 2)), (0, (3, 1)), (5, (0, 1)), (2, (2, 3)), (0, (7, 1))]
HOMES = {"mill": 4, "ash": 1, "oak": 1, "inn": 0, "dale": 2, "elm": 3}


class WrittenOutTest(Case):
    def test_needed_and_cost(self):
        tree = Tree(ROADS)
        for group, roads, price in [
            ([], [], (0, 1)),
            (["inn"], [], (0, 1)),
            (["dale"], [2], (3, 1)),
            (["ash"], [1, 2], (7, 2)),
            (["ash", "oak"], [1, 2], (7, 2)),
            (["oak", "inn", "ash"], [1, 2], (7, 2)),
            (["mill"], [2, 4], (11, 3)),
            (["mill", "dale"], [2, 4], (11, 3)),
            (["mill", "ash"], [1, 2, 4], (25, 6)),
            (["elm"], [3, 5], (7, 1)),
            (["mill", "elm", "ash"], [1, 2, 3, 4, 5], (67, 6)),
            (list(HOMES), [1, 2, 3, 4, 5], (67, 6)),
        ]:
            for turned in (group, group[::-1]):
                with self.subTest(group=turned):
                    self.hold_list(needed(tree, HOMES, turned), roads)
                    self.hold_fraction(cost(tree, HOMES, turned), price)
        self.hold_fraction(cost_of_all(tree, HOMES), (67, 6))

    def test_users(self):
        tree = Tree(ROADS)
        self.hold_list(users(tree, HOMES, 1), ["ash", "oak"])
        self.hold_list(users(tree, HOMES, 2), ["ash", "dale", "mill", "oak"])
        self.hold_list(users(tree, HOMES, 3), ["elm"])
        self.hold_list(users(tree, HOMES, 4), ["mill"])
        self.hold_list(users(tree, HOMES, 5), ["elm"])

    def test_no_villages(self):
        for roads in ([], ROADS):
            tree = Tree(roads)
            with self.subTest(roads=roads):
                self.hold_list(needed(tree, {}, []), [])
                self.hold_fraction(cost(tree, {}, []), (0, 1))
                self.hold_fraction(cost_of_all(tree, {}), (0, 1))
        for k in range(1, 6):
            self.hold_list(users(Tree(ROADS), {}, k), [])

    def test_all_at_the_market(self):
        homes = {"b": 0, "a": 0, "c": 0}
        for roads in ([], ROADS):
            tree = Tree(roads)
            self.hold_list(needed(tree, homes, ["c", "a"]), [])
            self.hold_fraction(cost_of_all(tree, homes), (0, 1))
        self.hold_list(users(Tree(ROADS), homes, 2), [])

    def test_roads_that_nobody_needs_cost_nothing(self):
        tree = Tree(ROADS)
        self.hold_fraction(cost_of_all(tree, {"a": 1}), (7, 2))
        self.hold_list(users(tree, {"a": 1}, 4), [])
        self.hold_list(users(tree, {"a": 2}, 1), [])

    def test_prices_of_many_figures(self):
        tree = Tree([(0, (BIG, 1)), (1, (1, BIG)), (2, (BIG, BIG - 1))])
        homes = {"a": 3, "b": 2}
        self.hold_fraction(cost(tree, homes, ["b"]), (BIG * BIG + 1, BIG))
        self.hold_fraction(cost_of_all(tree, homes), pair(plain_cost(tree.roads(), homes, ["a"])))

    def test_the_arguments_have_their_names(self):
        tree = Tree(ROADS)
        self.assertEqual(needed(tree=tree, homes=HOMES, group=["dale"]), [2])
        self.assertEqual(cost(tree=tree, homes=HOMES, group=["dale"]), (3, 1))
        self.assertEqual(cost_of_all(tree=tree, homes=HOMES), (67, 6))
        self.assertEqual(users(tree=tree, homes=HOMES, k=4), ["mill"])


class DrawnTest(Case):
    def test_of_every_group(self):
        rng = random.Random(7)
        for turn in range(60):
            roads = drawn_roads(rng, rng.choice([0, 1, 2, 4, 8, 20, 40]))
            homes = drawn_homes(rng, len(roads) + 1, rng.randrange(6))
            tree = Tree(roads)
            with self.subTest(roads=roads, homes=homes):
                for group in all_groups(homes):
                    rng.shuffle(group)
                    self.hold_list(needed(tree, homes, group), sorted(plain_needed(roads, homes, group)))
                    self.hold_fraction(cost(tree, homes, group), pair(plain_cost(roads, homes, group)))
                self.hold_fraction(cost_of_all(tree, homes), pair(plain_cost(roads, homes, homes)))
                for k in range(1, len(roads) + 1):
                    wanted = sorted(name for name in homes if k in plain_way(roads, homes[name]))
                    self.hold_list(users(tree, homes, k), wanted)

    def test_of_twelve_villages(self):
        rng = random.Random(8)
        for turn in range(20):
            roads = drawn_roads(rng, 40)
            homes = drawn_homes(rng, 41, 12)
            tree = Tree(roads)
            with self.subTest(roads=roads, homes=homes):
                self.hold_list(needed(tree, homes, list(homes)), sorted(plain_needed(roads, homes, homes)))
                self.hold_fraction(cost_of_all(tree, homes), pair(plain_cost(roads, homes, homes)))


class NoPlaceTest(Case):
    def test_a_road_that_the_tree_has_not(self):
        for roads, homes in ([], {"a": 0}), (ROADS, HOMES), (ROADS, {}):
            for number, k in enumerate(NOWHERE + [0, len(roads) + 1]):
                with self.subTest(roads=roads, number=number):
                    self.hold_refused(NoPlace, users, Tree(roads), homes, k)


class OwnTest(Case):
    def test_what_is_handed_in_stays(self):
        tree = Tree(ROADS)
        homes = dict(HOMES)
        group = ["oak", "mill", "ash", "inn"]
        needed(tree, homes, group)
        cost(tree, homes, group)
        cost_of_all(tree, homes)
        users(tree, homes, 2)
        self.hold_refused(NoPlace, users, tree, homes, 0)
        self.assertEqual(group, ["oak", "mill", "ash", "inn"])
        self.assertEqual(list(homes.items()), list(HOMES.items()))
        self.assertEqual(tree.roads(), ROADS)

    def test_lists_told_are_new(self):
        tree = Tree(ROADS)
        self.hold_new_list(needed, tree, HOMES, ["mill", "ash"])
        self.hold_new_list(needed, tree, HOMES, ["mill"])
        self.hold_new_list(needed, tree, HOMES, [])
        for k in range(1, 6):
            self.hold_new_list(users, tree, HOMES, k)
        self.assertEqual(tree.way(4), [4, 2])

    def test_what_was_told_stays_when_what_was_handed_in_changes(self):
        tree = Tree(ROADS)
        homes = dict(HOMES)
        group = ["mill", "ash"]
        roads = needed(tree, homes, group)
        names = users(tree, homes, 2)
        homes.clear()
        group.clear()
        self.assertEqual(roads, [1, 2, 4])
        self.assertEqual(names, ["ash", "dale", "mill", "oak"])
        homes.update({"a": 3})
        self.assertEqual(users(tree, homes, 2), [])
        self.assertEqual(users(tree, homes, 5), ["a"])


if __name__ == "__main__":
    unittest.main()
