"""Trees of roads (points 5 and 6)."""

import random
import unittest

from helper import BIG, NOWHERE, Case, drawn_roads, plain_way
from roadshare.errors import NoPlace, NoTree
from roadshare.trees import Tree

ONE = (1, 1)
#     0 (market)
#    / \
#   2   5
#  / \   \
# 4   1   3
SMALL = [(2, (1, 2)), (0, (3, 1)), (5, (0, 1)), (2, (BIG, 8)), (0, (1, BIG))]


def chain_up(many):
    """Each road leads to the crossing with the next lesser number."""
    return [(k - 1, (k, 1)) for k in range(1, many + 1)]


def chain_down(many):
    """Each road leads to the crossing with the next greater number, the last one to the market."""
    return [((k + 1) % (many + 1), (k, 1)) for k in range(1, many + 1)]


def star(many):
    return [(0, (k, 1)) for k in range(1, many + 1)]


class ToldTest(Case):
    def hold_tree(self, roads):
        tree = Tree(list(roads))
        many = len(roads) + 1
        ways = [plain_way(roads, k) for k in range(many)]
        self.hold_list(tree.roads(), roads)
        self.assertEqual(tree.many(), many)
        self.assertIs(type(tree.many()), int)
        for k in range(many):
            self.hold_list(tree.way(k), ways[k])
        for k in range(1, many):
            self.assertEqual(tree.leads_to(k), roads[k - 1][0])
            self.hold_fraction(tree.price(k), roads[k - 1][1])
            self.hold_list(tree.beneath(k), [place for place in range(many) if k in ways[place]])

    def test_written_out(self):
        tree = Tree(SMALL)
        self.hold_list(tree.roads(), SMALL)
        self.assertEqual(tree.many(), 6)
        self.assertEqual([tree.leads_to(k) for k in range(1, 6)], [2, 0, 5, 2, 0])
        self.assertEqual([tree.price(k) for k in range(1, 6)], [(1, 2), (3, 1), (0, 1), (BIG, 8), (1, BIG)])
        self.assertEqual([tree.way(k) for k in range(6)], [[], [1, 2], [2], [3, 5], [4, 2], [5]])
        self.assertEqual([tree.beneath(k) for k in range(1, 6)], [[1], [1, 2, 4], [3], [4], [3, 5]])

    def test_without_roads(self):
        tree = Tree([])
        self.hold_list(tree.roads(), [])
        self.assertEqual(tree.many(), 1)
        self.hold_list(tree.way(0), [])

    def test_chains_and_stars_of_0_to_40_roads(self):
        for many in range(41):
            for shape in (chain_up, chain_down, star):
                with self.subTest(many=many, shape=shape.__name__):
                    self.hold_tree(shape(many))

    def test_drawn_trees_of_0_to_40_roads(self):
        rng = random.Random(5)
        for many in range(41):
            for turn in range(4):
                roads = drawn_roads(rng, many)
                with self.subTest(roads=roads):
                    self.hold_tree(roads)

    def test_the_way_has_its_own_road_first(self):
        self.assertEqual(Tree(chain_up(40)).way(40), list(range(40, 0, -1)))
        self.assertEqual(Tree(chain_down(40)).way(1), list(range(1, 41)))

    def test_beneath_is_told_rising(self):
        self.assertEqual(Tree(chain_up(40)).beneath(1), list(range(1, 41)))
        self.assertEqual(Tree(chain_down(40)).beneath(40), list(range(1, 41)))

    def test_prices_of_0_and_of_many_figures(self):
        prices = [(0, 1), (BIG, 1), (1, BIG), (BIG, BIG - 1), (10 ** 400 + 1, 10 ** 400)]
        tree = Tree([(0, price) for price in prices])
        for k, price in enumerate(prices, start=1):
            with self.subTest(k=k):
                self.hold_fraction(tree.price(k), price)

    def test_the_arguments_have_their_names(self):
        tree = Tree(roads=SMALL)
        self.assertEqual(tree.leads_to(k=1), 2)
        self.assertEqual(tree.price(k=1), (1, 2))
        self.assertEqual(tree.way(k=1), [1, 2])
        self.assertEqual(tree.beneath(k=2), [1, 2, 4])


class NoPlaceTest(Case):
    def test_what_the_tree_has_not(self):
        for many in (0, 1, 5, 40):
            tree = Tree(chain_up(many))
            for number, k in enumerate(NOWHERE + [many + 1, many + 2]):
                with self.subTest(many=many, number=number):
                    for asked in (tree.leads_to, tree.price, tree.way, tree.beneath):
                        self.hold_refused(NoPlace, asked, k)

    def test_what_is_no_crossing_at_all(self):
        tree = Tree(SMALL)
        for k in (True, False, None, "", "1", (), (1,), [], [1]):
            with self.subTest(k=k):
                for asked in (tree.leads_to, tree.price, tree.way, tree.beneath):
                    self.hold_refused(NoPlace, asked, k)

    def test_the_road_0(self):
        for many in (0, 1, 5, 40):
            tree = Tree(chain_up(many))
            with self.subTest(many=many):
                for asked in (tree.leads_to, tree.price, tree.beneath):
                    self.hold_refused(NoPlace, asked, 0)
                self.hold_list(tree.way(0), [])

    def test_what_is_refused_changes_nothing(self):
        tree = Tree(SMALL)
        for asked in (tree.leads_to, tree.price, tree.way, tree.beneath):
            self.hold_refused(NoPlace, asked, 6)
        self.assertEqual(tree.roads(), SMALL)
        self.assertEqual([tree.way(k) for k in range(6)], [[], [1, 2], [2], [3, 5], [4, 2], [5]])


class OwnTest(Case):
    def test_lists_told_are_new(self):
        tree = Tree(SMALL)
        self.hold_new_list(tree.roads)
        for k in range(6):
            self.hold_new_list(tree.way, k)
        for k in range(1, 6):
            self.hold_new_list(tree.beneath, k)

    def test_changes_of_what_was_told_change_nothing(self):
        tree = Tree(list(SMALL))
        tree.roads().clear()
        tree.roads().append((0, ONE))
        tree.way(4).clear()
        tree.beneath(2).clear()
        self.assertEqual(tree.roads(), SMALL)
        self.assertEqual(tree.many(), 6)
        self.assertEqual(tree.way(4), [4, 2])
        self.assertEqual(tree.beneath(2), [1, 2, 4])

    def test_changes_of_the_list_handed_in_change_nothing(self):
        roads = list(SMALL)
        tree = Tree(roads)
        self.assertEqual(roads, SMALL)
        roads[0] = (0, (9, 1))
        roads[3] = (1, (9, 1))
        roads.append((4, ONE))
        self.assertEqual(tree.roads(), SMALL)
        self.assertEqual(tree.many(), 6)
        self.assertEqual([tree.leads_to(k) for k in range(1, 6)], [2, 0, 5, 2, 0])
        self.assertEqual(tree.price(1), (1, 2))
        self.assertEqual(tree.way(4), [4, 2])
        self.assertEqual(tree.beneath(2), [1, 2, 4])
        roads.clear()
        self.assertEqual(tree.roads(), SMALL)
        self.assertEqual(tree.way(4), [4, 2])

    def test_two_trees_of_one_list_are_two(self):
        roads = list(SMALL)
        one = Tree(roads)
        roads.append((1, ONE))
        other = Tree(roads)
        self.assertEqual(one.many(), 6)
        self.assertEqual(other.many(), 7)
        self.assertEqual(one.beneath(2), [1, 2, 4])
        self.assertEqual(other.beneath(2), [1, 2, 4, 6])


class NoTreeTest(Case):
    def test_what_is_no_list(self):
        for thing in [
            None, True, False, 0, 1, -1, 10 ** 30, "", "0 1", "[]", (), ((0, ONE),), (0, ONE), {}, {1: (0, ONE)}, {(0, ONE)},
        ]:
            with self.subTest(thing=thing):
                self.hold_refused(NoTree, Tree, thing)

    def test_a_road_that_is_no_tuple_of_two(self):
        for thing in [
            None, True, False, 0, 1, "", "0 1", "ab", (), (0,), (ONE,), (0, ONE, 0), (0, 1, 1), (0, ONE, ONE, ONE),
            [], [0, ONE], [0], [(0, ONE)], ((0, ONE),), {0: ONE},
        ]:
            with self.subTest(thing=thing):
                self.hold_refused(NoTree, Tree, [thing])
                self.hold_refused(NoTree, Tree, [(0, ONE), thing])
                self.hold_refused(NoTree, Tree, [thing, (0, ONE)])

    def test_a_road_to_what_is_no_crossing(self):
        for number, to in enumerate([
            None, True, False, "", "0", "a", (), (0,), (0, 1), [], [0], 0.0, -1, -2, -3, 3, 4, 10 ** 30, -(10 ** 30), 10 ** 5000,
        ]):
            with self.subTest(number=number):
                self.hold_refused(NoTree, Tree, [(to, ONE), (0, ONE)])
                self.hold_refused(NoTree, Tree, [(0, ONE), (to, ONE)])

    def test_the_last_crossing_is_one_and_the_next_one_none(self):
        for many in (1, 2, 39, 40):
            with self.subTest(many=many):
                roads = star(many)
                if many > 1:
                    Tree([(many, ONE)] + roads[1:])
                self.hold_refused(NoTree, Tree, [(many + 1, ONE)] + roads[1:])

    def test_a_price_that_is_no_fraction_from_0_on(self):
        huge = 10 ** 5000
        for number, price in enumerate([
            None, True, False, 0, 1, 5, -1, "", "1", "1/2", (), (1,), (1, 2, 3), [], [1, 2], ((1, 2), 1), 0.5,
            (-1, 1), (-1, 2), (-BIG, 1), (-1, BIG), (-huge, 1),
            (1, 0), (0, 0), (1, -2), (-1, -2), (0, 2), (2, 4), (2, 2), (0, -1), (huge, huge), (2, huge),
            (True, 2), (1, True), (False, 1), (None, 1), (1, None), ("1", 2), (1, "2"), (1.0, 2), ([1], 2),
        ]):
            with self.subTest(number=number):
                self.hold_refused(NoTree, Tree, [(0, price)])
                self.hold_refused(NoTree, Tree, [(0, ONE), (1, price)])
                self.hold_refused(NoTree, Tree, [(2, price), (0, ONE)])

    def test_a_forty_first_road(self):
        for shape in (chain_up, chain_down, star):
            with self.subTest(shape=shape.__name__):
                self.assertEqual(Tree(shape(40)).many(), 41)
                for many in (41, 42, 1000):
                    self.hold_refused(NoTree, Tree, shape(many))

    def test_a_road_to_its_own_crossing(self):
        for many in (1, 2, 5, 40):
            for k in (1, many // 2 + 1, many):
                roads = star(many)
                roads[k - 1] = (k, ONE)
                with self.subTest(many=many, k=k):
                    self.hold_refused(NoTree, Tree, roads)

    def test_rings(self):
        for many in (2, 3, 7, 39, 40):
            ring = [(k % many + 1, ONE) for k in range(1, many + 1)]
            with self.subTest(many=many):
                self.hold_refused(NoTree, Tree, ring)
                # One road out of the ring mends it.
                Tree([(0, ONE)] + ring[1:])

    def test_rings_beside_good_ways(self):
        for roads in [
            [(0, ONE), (3, ONE), (2, ONE)],
            [(2, ONE), (1, ONE), (0, ONE), (3, ONE)],
            [(0, ONE), (1, ONE), (2, ONE), (5, ONE), (6, ONE), (4, ONE)],
            [(2, ONE), (3, ONE), (2, ONE), (0, ONE)],
            [(2, ONE), (3, ONE), (4, ONE), (4, ONE), (0, ONE)],
        ]:
            with self.subTest(roads=roads):
                self.hold_refused(NoTree, Tree, roads)

    def test_drawn_roads_to_anywhere(self):
        rng = random.Random(6)
        good = 0
        for turn in range(600):
            many = rng.randrange(1, 7)
            roads = [(rng.randrange(many + 1), ONE) for k in range(many)]
            places = list(range(many + 1))
            for step in range(many):
                places = [0 if place == 0 else roads[place - 1][0] for place in places]
            with self.subTest(roads=roads):
                if any(places):
                    self.hold_refused(NoTree, Tree, roads)
                else:
                    good += 1
                    self.assertEqual(Tree(roads).roads(), roads)
        self.assertTrue(100 < good < 500)

    def test_what_is_refused_stays_as_it_was(self):
        roads = [(2, ONE), (1, ONE), [0, ONE]]
        self.hold_refused(NoTree, Tree, roads)
        self.assertEqual(roads, [(2, ONE), (1, ONE), [0, ONE]])


if __name__ == "__main__":
    unittest.main()
