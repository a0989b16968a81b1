"""The even rule (points 3 and 8)."""

import itertools
import random
import unittest
from fractions import Fraction

from helper import BIG, Case, cut, drawn_homes, drawn_roads, pair, plain, plain_cost, plain_way
from roadshare.costs import cost_of_all
from roadshare.evens import even_shares, even_table
from roadshare.trees import Tree

#     0 (market: inn)
#    / \
#   2   5
#  / \   \
# 4   1   3
ROADS = [(2, (1, 2)), (0, (3, 1)), (5, (0, 1)), (2, (2, 3)), (0, (7, 1))]
HOMES = {"mill": 4, "oak": 1, "ash": 1, "inn": 0, "elm": 3}
TABLE = [
    (1, "ash", (1, 4)), (1, "oak", (1, 4)),
    (2, "ash", (1, 1)), (2, "mill", (1, 1)), (2, "oak", (1, 1)),
    (4, "mill", (2, 3)),
    (5, "elm", (7, 1)),
]
SHARES = {"ash": (5, 4), "elm": (7, 1), "inn": (0, 1), "mill": (5, 3), "oak": (5, 4)}


def mean_of_orders(roads, homes):
    """What each village adds to the cost, over all orders of coming."""
    added = {name: Fraction(0) for name in homes}
    orders = list(itertools.permutations(homes))
    for order in orders:
        for place, name in enumerate(order):
            added[name] += plain_cost(roads, homes, order[:place + 1]) - plain_cost(roads, homes, order[:place])
    return {name: pair(added[name] / len(orders)) for name in homes}


def plain_table(roads, homes):
    table = []
    for k in range(1, len(roads) + 1):
        payers = sorted(name for name in homes if k in plain_way(roads, homes[name]))
        price = plain(roads[k - 1][1])
        if price > 0:
            table += [(k, name, pair(price / len(payers))) for name in payers]
    return table


class EvenCase(Case):
    def hold_table(self, told, wanted):
        self.hold_list(told, wanted)
        for row in told:
            self.assertIs(type(row), tuple)
            self.hold_fraction(row[2], row[2])

    def hold_shares(self, told, wanted):
        self.assertIs(type(told), dict)
        self.assertEqual(told, wanted)
        for share in told.values():
            self.hold_fraction(share, share)


class WrittenOutTest(EvenCase):
    def test_a_small_tree(self):
        self.hold_table(even_table(Tree(ROADS), HOMES), TABLE)
        self.hold_shares(even_shares(Tree(ROADS), HOMES), SHARES)

    def test_no_villages(self):
        for roads in ([], ROADS):
            with self.subTest(roads=roads):
                self.hold_table(even_table(Tree(roads), {}), [])
                self.hold_shares(even_shares(Tree(roads), {}), {})

    def test_one_village_pays_its_whole_way(self):
        tree = Tree(ROADS)
        self.hold_table(even_table(tree, {"a": 4}), [(2, "a", (3, 1)), (4, "a", (2, 3))])
        self.hold_shares(even_shares(tree, {"a": 4}), {"a": (11, 3)})

    def test_villages_at_the_market_pay_nothing(self):
        for roads in ([], ROADS):
            with self.subTest(roads=roads):
                self.hold_table(even_table(Tree(roads), {"b": 0, "a": 0}), [])
                self.hold_shares(even_shares(Tree(roads), {"b": 0, "a": 0}), {"a": (0, 1), "b": (0, 1)})

    def test_roads_with_the_price_0_are_left_out(self):
        tree = Tree([(0, (0, 1)), (1, (0, 1)), (1, (5, 2))])
        self.hold_table(even_table(tree, {"b": 2, "a": 1}), [])
        self.hold_shares(even_shares(tree, {"b": 2, "a": 1}), {"a": (0, 1), "b": (0, 1)})
        self.hold_table(even_table(tree, {"b": 3, "a": 2}), [(3, "b", (5, 2))])
        self.hold_shares(even_shares(tree, {"b": 3, "a": 2}), {"a": (0, 1), "b": (5, 2)})

    def test_roads_that_nobody_needs_are_paid_by_nobody(self):
        tree = Tree([(0, (4, 1)), (1, (8, 1)), (0, (16, 1))])
        self.hold_table(even_table(tree, {"a": 1}), [(1, "a", (4, 1))])
        self.hold_shares(even_shares(tree, {"a": 1}), {"a": (4, 1)})

    def test_amounts_in_lowest_terms(self):
        homes = {"d": 1, "a": 1, "c": 1, "b": 1}
        tree = Tree([(0, (6, 1))])
        self.hold_table(even_table(tree, homes), [(1, name, (3, 2)) for name in "abcd"])
        self.hold_shares(even_shares(tree, homes), {name: (3, 2) for name in "abcd"})

    def test_shares_in_lowest_terms(self):
        tree = Tree([(0, (1, 3)), (1, (1, 6))])
        self.hold_shares(even_shares(tree, {"a": 2}), {"a": (1, 2)})

    def test_prices_of_many_figures(self):
        homes = {name: 2 for name in "abcdefg"}
        tree = Tree([(0, (BIG, BIG - 1)), (1, (1, BIG))])
        share = (Fraction(BIG, BIG - 1) + Fraction(1, BIG)) / 7
        self.hold_shares(even_shares(tree, homes), {name: pair(share) for name in homes})

    def test_the_arguments_have_their_names(self):
        self.assertEqual(even_table(tree=Tree(ROADS), homes=HOMES), TABLE)
        self.assertEqual(even_shares(tree=Tree(ROADS), homes=HOMES), SHARES)


class DrawnTest(EvenCase):
    def test_the_table_and_the_sums(self):
        rng = random.Random(9)
        for turn in range(80):
            roads = drawn_roads(rng, rng.choice([0, 1, 2, 4, 8, 20, 40]))
            homes = drawn_homes(rng, len(roads) + 1, rng.randrange(13))
            tree = Tree(roads)
            with self.subTest(roads=roads, homes=homes):
                wanted = plain_table(roads, homes)
                self.hold_table(even_table(tree, homes), wanted)
                sums = {name: sum(plain(row[2]) for row in wanted if row[1] == name) for name in homes}
                shares = even_shares(tree, homes)
                self.hold_shares(shares, {name: pair(Fraction(sums[name])) for name in homes})
                all_shares = sum((plain(share) for share in shares.values()), Fraction(0))
                self.hold_fraction(cost_of_all(tree, homes), pair(all_shares))

    def test_the_mean_over_all_orders_of_coming(self):
        rng = random.Random(10)
        for turn in range(60):
            roads = drawn_roads(rng, rng.choice([0, 1, 2, 4, 8, 12]))
            homes = drawn_homes(rng, len(roads) + 1, turn % 6)
            with self.subTest(roads=roads, homes=homes):
                self.hold_shares(even_shares(Tree(roads), homes), mean_of_orders(roads, homes))

    def test_a_road_cut_in_two_changes_no_share(self):
        rng = random.Random(11)
        for turn in range(60):
            roads = drawn_roads(rng, rng.choice([1, 2, 4, 8, 39]))
            homes = drawn_homes(rng, len(roads) + 1, rng.randrange(13))
            shares = even_shares(Tree(roads), homes)
            k = rng.randrange(1, len(roads) + 1)
            price = plain(roads[k - 1][1])
            for part in (Fraction(0), price / 3, price / 2, price):
                with self.subTest(roads=roads, homes=homes, k=k, part=part):
                    self.hold_shares(even_shares(Tree(cut(roads, k, part)), homes), shares)


class OwnTest(EvenCase):
    def test_what_is_handed_in_stays(self):
        tree = Tree(ROADS)
        homes = dict(HOMES)
        even_table(tree, homes)
        even_shares(tree, homes)
        self.assertEqual(list(homes.items()), list(HOMES.items()))
        self.assertEqual(tree.roads(), ROADS)

    def test_what_is_told_is_new(self):
        tree = Tree(ROADS)
        self.hold_new_list(even_table, tree, HOMES)
        first = even_shares(tree, HOMES)
        second = even_shares(tree, HOMES)
        first.clear()
        self.assertEqual(second, SHARES)
        second["ash"] = (9, 1)
        self.assertEqual(even_shares(tree, HOMES), SHARES)
        self.assertEqual(even_table(tree, HOMES), TABLE)

    def test_what_was_told_stays_when_homes_change(self):
        tree = Tree(ROADS)
        homes = dict(HOMES)
        table = even_table(tree, homes)
        shares = even_shares(tree, homes)
        homes["new"] = 1
        homes["ash"] = 0
        self.assertEqual(table, TABLE)
        self.assertEqual(shares, SHARES)
        shares["inn"] = (1, 1)
        self.assertEqual(homes, {"mill": 4, "oak": 1, "ash": 0, "inn": 0, "elm": 3, "new": 1})


if __name__ == "__main__":
    unittest.main()
