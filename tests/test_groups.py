"""The groups of some names, and their gains in a sharing (point 15)."""

import itertools
import random
import unittest
from fractions import Fraction

from helper import BIG, NAMES, Case, drawn_homes, drawn_roads, paid_by, pair, plain, plain_cost
from roadshare.evens import even_shares
from roadshare.groups import gains, groups_of
from roadshare.judging import judged
from roadshare.stairs import evenest
from roadshare.trees import Tree

#     0 (market)
#    / \
#   2   3
#   |
#   1
ROADS = [(2, (1, 2)), (0, (3, 1)), (0, (7, 1))]
HOMES = {"oak": 1, "dale": 2, "elm": 3}
SHARING = {"oak": (2, 1), "dale": (3, 2), "elm": (7, 1)}
GAINS = [
    (["dale"], (3, 2)), (["elm"], (0, 1)), (["oak"], (3, 2)),
    (["dale", "elm"], (3, 2)), (["dale", "oak"], (0, 1)), (["elm", "oak"], (3, 2)),
]


def plain_groups(names):
    groups = [list(group) for many in range(1, len(names)) for group in itertools.combinations(names, many)]
    return sorted([sorted(group) for group in groups], key=lambda group: (len(group), group))


class GroupsTest(Case):
    def hold_groups(self, names, wanted):
        told = groups_of(names)
        self.hold_list(told, wanted)
        for group in told:
            self.assertIs(type(group), list)

    def test_of_no_name_and_of_one(self):
        self.hold_groups([], [])
        self.hold_groups(["a"], [])

    def test_of_two(self):
        self.hold_groups(["a", "b"], [["a"], ["b"]])
        self.hold_groups(["b", "a"], [["a"], ["b"]])

    def test_of_three_in_any_order(self):
        for names in itertools.permutations(["a", "ab", "b"]):
            with self.subTest(names=names):
                self.hold_groups(list(names), [["a"], ["ab"], ["b"], ["a", "ab"], ["a", "b"], ["ab", "b"]])

    def test_of_four(self):
        self.hold_groups(["d", "b", "c", "a"], [
            ["a"], ["b"], ["c"], ["d"],
            ["a", "b"], ["a", "c"], ["a", "d"], ["b", "c"], ["b", "d"], ["c", "d"],
            ["a", "b", "c"], ["a", "b", "d"], ["a", "c", "d"], ["b", "c", "d"],
        ])

    def test_of_drawn_names(self):
        rng = random.Random(31)
        for turn in range(60):
            names = rng.sample(NAMES, turn % 7)
            with self.subTest(names=names):
                self.hold_groups(names, plain_groups(names))
                self.assertEqual(len(groups_of(names)), max(0, 2 ** len(names) - 2))

    def test_the_argument_has_its_name(self):
        self.assertEqual(groups_of(names=["b", "a"]), [["a"], ["b"]])

    def test_what_is_told_is_new_and_what_is_handed_in_stays(self):
        for names in ([], ["a"], ["b", "a"], ["d", "b", "c", "a"], ["f", "e", "d", "c", "b", "a"]):
            with self.subTest(names=names):
                self.hold_own(groups_of, names)


class GainsTest(Case):
    def hold_gains(self, roads, homes, sharing):
        told = gains(Tree(roads), homes, sharing)
        self.assertIs(type(told), list)
        self.assertEqual([row[0] for row in told], plain_groups(homes))
        for row in told:
            self.assertIs(type(row), tuple)
            group, gain = row
            self.assertIs(type(group), list)
            self.hold_fraction(gain, pair(plain_cost(roads, homes, group) - paid_by(sharing, group)))
        return told

    def test_a_small_tree(self):
        self.assertEqual(self.hold_gains(ROADS, HOMES, SHARING), GAINS)

    def test_gains_below_0(self):
        sharing = {"oak": (5, 1), "dale": (-3, 2), "elm": (7, 1)}
        self.assertEqual(self.hold_gains(ROADS, HOMES, sharing), [
            (["dale"], (9, 2)), (["elm"], (0, 1)), (["oak"], (-3, 2)),
            (["dale", "elm"], (9, 2)), (["dale", "oak"], (0, 1)), (["elm", "oak"], (-3, 2)),
        ])

    def test_no_village_and_one(self):
        for roads in ([], ROADS):
            self.assertEqual(gains(Tree(roads), {}, {}), [])
            self.assertEqual(gains(Tree(roads), {"a": 0}, {"a": (0, 1)}), [])
        self.assertEqual(gains(Tree(ROADS), {"a": 1}, {"a": (7, 2)}), [])

    def test_two_at_one_crossing(self):
        homes = {"b": 1, "a": 1}
        self.assertEqual(self.hold_gains([(0, (4, 1))], homes, {"a": (1, 1), "b": (3, 1)}), [
            (["a"], (3, 1)), (["b"], (1, 1)),
        ])

    def test_shares_that_do_not_come_to_the_cost_of_all(self):
        homes = {"b": 1, "a": 1}
        self.assertEqual(self.hold_gains([(0, (4, 1))], homes, {"a": (1, 1), "b": (-1, 3)}), [
            (["a"], (3, 1)), (["b"], (13, 3)),
        ])

    def test_drawn(self):
        rng = random.Random(32)
        below = 0
        for turn in range(80):
            roads = drawn_roads(rng, rng.choice([0, 1, 2, 4, 8, 40]))
            homes = drawn_homes(rng, len(roads) + 1, turn % 7)
            shares = {name: pair(Fraction(rng.randrange(-20, 60), rng.randrange(1, BIG))) for name in homes}
            for sharing in (even_shares(Tree(roads), homes), evenest(Tree(roads), homes), shares):
                with self.subTest(roads=roads, homes=homes, sharing=sharing):
                    told = self.hold_gains(roads, homes, sharing)
                    below += any(plain(gain) < 0 for group, gain in told)
        self.assertGreater(below, 5)

    def test_a_sharing_is_good_just_where_no_gain_is_below_0(self):
        for more in (-1, 0, 1, 2, 3, 4):
            sharing = dict(SHARING, oak=(2 - more, 1), dale=pair(Fraction(3, 2) + more))
            good = all(gain[0] >= 0 for group, gain in self.hold_gains(ROADS, HOMES, sharing))
            self.assertEqual(judged(Tree(ROADS), HOMES, sharing)[0] == "good", good)

    def test_the_arguments_have_their_names(self):
        self.assertEqual(gains(tree=Tree(ROADS), homes=HOMES, sharing=SHARING), GAINS)

    def test_what_is_told_is_new_and_what_is_handed_in_stays(self):
        self.hold_own(gains, Tree(ROADS), HOMES, SHARING)
        self.hold_own(gains, Tree(ROADS), {"b": 1, "a": 1}, {"b": (-1, 2), "a": (4, 1)})
        self.hold_own(gains, Tree(ROADS), {"a": 1}, {"a": (7, 2)})
        self.hold_own(gains, Tree([]), {}, {})


if __name__ == "__main__":
    unittest.main()
