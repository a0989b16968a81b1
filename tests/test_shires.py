"""Shires: deeds, their refusals, what is taken back, and what a shire tells (points 2, 3, 18 and 19)."""

import itertools
import random
import unittest
from fractions import Fraction

from helper import (
    BIG, NAMES, NO_NAMES, NO_PRICES, NOWHERE, Case, Model, all_groups, drawn_deed, drawn_roads, pair, plain, plain_cost,
    spoil,
)
from roadshare.costs import cost
from roadshare.errors import NoDeed, NoName, NoPlace, NoPrice, NoSharing, TooMany
from roadshare.evens import even_shares
from roadshare.judging import judged
from roadshare.shires import Shire
from roadshare.stairs import evenest
from roadshare.thirds import third
from roadshare.trees import Tree

#    0 (market)
#    |
#    2
#   / \
#  1   3
ROADS = [(2, (1, 2)), (0, (3, 1)), (2, (2, 3))]
HOMES = {"oak": 1, "mill": 3, "ash": 1}
RULES = {"even": even_shares, "evenest": evenest, "third": third}


def settled(roads, homes):
    """A shire made anew."""
    shire = Shire(Tree(roads))
    for name, k in homes.items():
        shire.come(name, k)
    return shire


def full_of_villages(roads):
    return settled(roads, {name: 0 for name in NAMES})


def full_of_roads():
    return settled([(0, (2, 1))] * 40, {"oak": 1, "ash": 2})


def taken(function, *handed):
    """What is told, or the kind of the refusal."""
    try:
        return function(*handed)
    except (NoName, NoSharing, TooMany) as refusal:
        return type(refusal)


def sharings_for(roads, homes):
    """Some dicts of fractions, sharings and not."""
    whole = plain_cost(roads, homes, homes)
    first = sorted(homes)[:1]
    alone = {name: pair(whole if name in first else Fraction(0)) for name in homes}
    return [even_shares(Tree(roads), homes), alone, {}, {"nobody": (0, 1)}, dict(alone, nobody=(0, 1))]


def all_answers(shire):
    """Whatever can be asked; a dict's order does not count."""
    roads = shire.tree().roads()
    homes = shire.homes()
    groups = all_groups(homes)[:40] + [sorted(homes), sorted(homes, reverse=True)]
    told = [roads, homes, shire.tree().many(), [shire.tree().way(k) for k in range(len(roads) + 1)]]
    told += [taken(shire.cost_of, group) for group in groups + [["nobody"], sorted(homes)[:1] * 2]]
    told += [taken(shire.shares, rule) for rule in RULES]
    told += [taken(shire.judge, sharing) for sharing in sharings_for(roads, homes)]
    return told


class ShireCase(Case):
    def hold_state(self, shire, roads, homes):
        """All answers are those that are told of the tree and the homes."""
        self.assertIs(type(shire.tree()), Tree)
        self.hold_list(shire.tree().roads(), roads)
        self.assertIs(type(shire.homes()), dict)
        self.assertEqual(shire.homes(), homes)
        tree = Tree(roads)
        for group in all_groups(homes)[:20] + [list(homes)]:
            self.hold_fraction(shire.cost_of(group), cost(tree, homes, group))
        for rule, function in RULES.items():
            if rule == "third" and len(homes) > 6:
                self.hold_refused(TooMany, shire.shares, rule)
            else:
                self.assertEqual(shire.shares(rule), function(tree, homes))
        for sharing in sharings_for(roads, homes):
            if taken(judged, tree, homes, sharing) is NoSharing:
                self.hold_refused(NoSharing, shire.judge, sharing)
            else:
                self.assertEqual(shire.judge(sharing), judged(tree, homes, sharing))

    def hold_refused_deed(self, refusal, shire, deed, *handed):
        """Refused, it changes nothing, and is no deed that could be taken back."""
        ahead = all_answers(shire)
        name = min(shire.homes())
        shire.move(name, 1 if shire.homes()[name] == 0 else 0)
        behind = all_answers(shire)
        self.assertNotEqual(behind, ahead)
        self.hold_refused(refusal, getattr(shire, deed), *handed)
        self.assertEqual(all_answers(shire), behind)
        shire.back()
        self.assertEqual(all_answers(shire), ahead)
        self.hold_refused(refusal, getattr(shire, deed), *handed)
        self.assertEqual(all_answers(shire), ahead)


class DeedsTest(ShireCase):
    def test_a_new_shire_has_no_villages(self):
        for roads in ([], ROADS):
            self.hold_state(Shire(Tree(roads)), roads, {})
        shire = Shire(tree=Tree(ROADS))
        self.assertEqual(shire.homes(), {})
        self.assertEqual(shire.cost_of([]), (0, 1))
        self.assertEqual([shire.shares(rule) for rule in RULES], [{}, {}, {}])
        self.assertEqual(shire.judge({}), ("good", []))

    def test_villages_come_go_and_move(self):
        shire = Shire(Tree(ROADS))
        self.assertIsNone(shire.come("oak", 1))
        self.hold_state(shire, ROADS, {"oak": 1})
        self.assertIsNone(shire.come("abcdefgh", 0))
        self.assertIsNone(shire.come(name="z", k=1))
        self.hold_state(shire, ROADS, {"oak": 1, "abcdefgh": 0, "z": 1})
        self.assertIsNone(shire.move("abcdefgh", 3))
        self.hold_state(shire, ROADS, {"oak": 1, "abcdefgh": 3, "z": 1})
        self.assertIsNone(shire.move(name="z", k=0))
        self.assertIsNone(shire.go("oak"))
        self.hold_state(shire, ROADS, {"abcdefgh": 3, "z": 0})
        self.assertIsNone(shire.come("oak", 2))
        self.hold_state(shire, ROADS, {"abcdefgh": 3, "z": 0, "oak": 2})
        self.assertIsNone(shire.go(name="z"))
        self.hold_state(shire, ROADS, {"abcdefgh": 3, "oak": 2})

    def test_a_road_is_priced_anew(self):
        shire = settled(ROADS, HOMES)
        for price in [(0, 1), (BIG, BIG - 1), (1, BIG), (3, 1), (3, 1)]:
            self.assertIsNone(shire.reprice(2, price))
            self.hold_state(shire, [ROADS[0], (0, price), ROADS[2]], HOMES)
        self.assertIsNone(shire.reprice(k=1, price=(7, 1)))
        self.hold_state(shire, [(2, (7, 1)), ROADS[1], ROADS[2]], HOMES)

    def test_a_road_is_cut_in_two(self):
        shire = settled(ROADS, HOMES)
        self.assertEqual(shire.cut(2, (1, 1)), 4)
        self.hold_state(shire, [ROADS[0], (4, (2, 1)), ROADS[2], (0, (1, 1))], HOMES)
        self.assertEqual(shire.cut(k=1, price=(1, 8)), 5)
        self.hold_state(shire, [(5, (3, 8)), (4, (2, 1)), ROADS[2], (0, (1, 1)), (2, (1, 8))], HOMES)

    def test_a_road_is_cut_at_0_and_at_its_whole_price(self):
        shire = settled(ROADS, HOMES)
        self.assertEqual(shire.cut(3, (0, 1)), 4)
        self.hold_state(shire, [ROADS[0], ROADS[1], (4, (2, 3)), (2, (0, 1))], HOMES)
        shire = settled(ROADS, HOMES)
        self.assertEqual(shire.cut(3, (2, 3)), 4)
        self.hold_state(shire, [ROADS[0], ROADS[1], (4, (0, 1)), (2, (2, 3))], HOMES)
        self.assertEqual(shire.cut(3, (0, 1)), 5)
        self.hold_state(shire, [ROADS[0], ROADS[1], (5, (0, 1)), (2, (2, 3)), (4, (0, 1))], HOMES)

    def test_a_crossing_is_built(self):
        shire = Shire(Tree([]))
        self.assertEqual(shire.build(0, (5, 1)), 1)
        self.assertEqual(shire.build(to=1, price=(0, 1)), 2)
        self.assertEqual(shire.build(1, (1, BIG)), 3)
        self.hold_state(shire, [(0, (5, 1)), (1, (0, 1)), (1, (1, BIG))], {})
        shire.come("oak", 3)
        self.hold_state(shire, [(0, (5, 1)), (1, (0, 1)), (1, (1, BIG))], {"oak": 3})

    def test_a_number_told_is_a_whole_number(self):
        shire = Shire(Tree(ROADS))
        self.assertIs(type(shire.build(0, (1, 1))), int)
        self.assertIs(type(shire.cut(1, (0, 1))), int)

    def test_twelve_villages_and_forty_roads(self):
        shire = Shire(Tree([]))
        for k in range(20):
            self.assertEqual(shire.build(k, (6, 1)), k + 1)
        for k in range(20):
            self.assertEqual(shire.cut(k + 1, (k, 6) if k in (1, 5) else (k // 6, 1)), 21 + k)
        for k, name in enumerate(NAMES):
            self.assertIsNone(shire.come(name, 3 * k))
        self.assertEqual(len(shire.homes()), 12)
        self.assertEqual(shire.tree().many(), 41)

    def test_what_came_of_cuts_may_have_many_figures(self):
        shire = settled([(0, (BIG, 2))], {"oak": 1, "ash": 1})
        told = shire.shares("even")
        price = Fraction(BIG, 2)
        for turn in range(12):
            part = Fraction(1, 10 ** 29 + turn)
            shire.cut(1, pair(part))
            price -= part
        self.assertEqual(plain(shire.tree().price(1)), price)
        self.assertGreater(len(str(shire.tree().price(1)[1])), 300)
        self.assertEqual([shire.shares(rule) for rule in RULES], [told] * 3)


class RefusedTest(ShireCase):
    def test_names(self):
        for name in NO_NAMES:
            with self.subTest(name=name[:20]):
                shire = settled(ROADS, HOMES)
                for handed in (("come", name, 1), ("go", name), ("move", name, 1)):
                    self.hold_refused_deed(NoName, shire, *handed)
        shire = settled(ROADS, HOMES)
        for name in HOMES:
            self.hold_refused_deed(NoName, shire, "come", name, 1)
            self.hold_refused_deed(NoName, shire, "come", name, 0)
        for name in ("elm", "oa", "oakk", "a"):
            self.hold_refused_deed(NoName, shire, "go", name)
            self.hold_refused_deed(NoName, shire, "move", name, 1)
        shire.go("oak")
        self.hold_refused_deed(NoName, shire, "go", "oak")
        self.hold_refused_deed(NoName, shire, "move", "oak", 0)

    def test_places(self):
        shire = settled(ROADS, HOMES)
        for k in [4, 5] + NOWHERE:
            for handed in (("come", "elm", k), ("move", "oak", k), ("reprice", k, (1, 1)), ("cut", k, (0, 1)),
                           ("build", k, (1, 1))):
                self.hold_refused(NoPlace, getattr(shire, handed[0]), *handed[1:])
        for handed in (("come", "elm", 5), ("move", "oak", -1), ("reprice", 5, (1, 1)), ("cut", -1, (0, 1)),
                       ("build", 5, (1, 1)), ("reprice", 0, (1, 1)), ("cut", 0, (0, 1))):
            self.hold_refused_deed(NoPlace, shire, *handed)
        bare = Shire(Tree([]))
        self.hold_refused(NoPlace, bare.come, "oak", 1)
        self.hold_refused(NoPlace, bare.reprice, 1, (1, 1))
        self.hold_refused(NoPlace, bare.cut, 1, (0, 1))
        self.hold_refused(NoPlace, bare.build, 1, (0, 1))

    def test_prices(self):
        shire = settled(ROADS, HOMES)
        kept = all_answers(shire)
        for price in NO_PRICES:
            self.hold_refused(NoPrice, shire.reprice, 2, price)
            self.hold_refused(NoPrice, shire.cut, 2, price)
            self.hold_refused(NoPrice, shire.build, 2, price)
        self.assertEqual(all_answers(shire), kept)
        for deed in ("reprice", "cut", "build"):
            self.hold_refused_deed(NoPrice, shire, deed, 2, (-1, 2))
            self.hold_refused_deed(NoPrice, shire, deed, 2, [1, 2])

    def test_a_part_that_costs_more_than_the_road(self):
        shire = settled(ROADS + [(0, (0, 1))], HOMES)
        for k, price in [(2, (4, 1)), (2, pair(3 + Fraction(1, BIG))), (1, (2, 3)), (3, (1, 1)), (4, (1, BIG))]:
            self.hold_refused_deed(NoPrice, shire, "cut", k, price)

    def test_a_thirteenth_village_and_a_road_beyond_the_fortieth(self):
        self.hold_refused_deed(TooMany, full_of_villages(ROADS), "come", "oak", 1)
        self.hold_refused_deed(TooMany, full_of_roads(), "cut", 40, (1, 1))
        self.hold_refused_deed(TooMany, full_of_roads(), "build", 40, (1, 1))
        shire = full_of_villages(ROADS)
        shire.go("ab")
        self.assertIsNone(shire.come("oak", 1))
        self.hold_refused_deed(TooMany, shire, "come", "ab", 1)
        shire = full_of_roads()
        self.assertIsNone(shire.reprice(40, (5, 1)))
        self.assertIsNone(shire.come("elm", 40))

    def test_nothing_to_take_back(self):
        shire = Shire(Tree(ROADS))
        self.hold_refused(NoDeed, shire.back)
        self.hold_refused(NoName, shire.go, "oak")
        self.hold_refused(NoDeed, shire.back)
        shire.come("oak", 1)
        shire.back()
        self.hold_refused(NoDeed, shire.back)
        self.hold_refused(NoDeed, shire.back)
        self.hold_state(shire, ROADS, {})
        shire.come("oak", 1)
        self.hold_state(shire, ROADS, {"oak": 1})

    def hold_first(self, make, deed, parts):
        """Of each mixture of right things and wrong ones that is the refusal whose turn is first; parts in their order.

        A part is a list of things to be handed in, each with the refusal that is due for it, or None.
        """
        for mixture in itertools.product(*parts):
            due = [refusal for thing, refusal in mixture if refusal is not None]
            shire, late = make()
            due += late
            if due:
                with self.subTest(deed=deed, mixture=mixture):
                    self.hold_refused_deed(due[0], shire, deed, *[thing for thing, refusal in mixture])

    def test_the_first_that_is_due(self):
        strange = [("new", None), ("Oak", NoName), ("", NoName)]
        places = [(1, None), (0, None), (41, NoPlace), (-1, NoPlace)]
        ways = [(1, None), (0, NoPlace), (41, NoPlace)]
        prices = [((1, 3), None), ((-1, 1), NoPrice), (None, NoPrice)]
        parts = [((1, 3), None), ((9, 1), NoPrice), ((2, 4), NoPrice)]
        known = [("oak", None), ("new", NoName), ("OAK", NoName)]

        def some():
            return settled(ROADS, HOMES), []

        def many_villages():
            return full_of_villages(ROADS), [TooMany]

        def many_roads():
            return full_of_roads(), [TooMany]

        for make in (some, many_villages):
            self.hold_first(make, "come", [strange + [("oak" if make is some else "ab", NoName)], places])
        self.hold_first(some, "move", [known, places])
        self.hold_first(some, "reprice", [ways, prices])
        for make in (some, many_roads):
            self.hold_first(make, "cut", [ways, parts])
            self.hold_first(make, "build", [places, prices])


class BackTest(ShireCase):
    DEEDS = [
        ("come", "elm", 2), ("go", "oak"), ("move", "oak", 3), ("move", "oak", 1), ("reprice", 2, (9, 1)),
        ("reprice", 2, (3, 1)), ("cut", 2, (1, 1)), ("cut", 2, (0, 1)), ("build", 3, (1, 7)),
    ]

    def test_each_kind_of_deed(self):
        for deed in self.DEEDS:
            with self.subTest(deed=deed):
                shire = settled(ROADS, HOMES)
                getattr(shire, deed[0])(*deed[1:])
                self.assertIsNone(shire.back())
                self.hold_state(shire, ROADS, HOMES)
                # So it was one deed: the next one that is taken back is the last village's coming.
                shire.back()
                self.hold_state(shire, ROADS, {"oak": 1, "mill": 3})

    def test_several_in_a_row(self):
        shire = Shire(Tree(ROADS))
        states = []
        for deed in [("come", "oak", 1)] + self.DEEDS[2:] + self.DEEDS[:2]:
            states.append((shire.tree().roads(), shire.homes()))
            getattr(shire, deed[0])(*deed[1:])
        self.assertEqual(shire.homes(), {"elm": 2})
        for roads, homes in reversed(states):
            self.assertIsNone(shire.back())
            self.hold_state(shire, roads, homes)
        self.hold_state(shire, ROADS, {})
        self.hold_refused(NoDeed, shire.back)

    def test_to_take_back_is_no_deed(self):
        shire = settled(ROADS, {"oak": 1})
        shire.move("oak", 2)
        shire.move("oak", 3)
        shire.back()
        self.hold_state(shire, ROADS, {"oak": 2})
        shire.back()
        self.hold_state(shire, ROADS, {"oak": 1})
        shire.move("oak", 0)
        shire.back()
        shire.back()
        self.hold_state(shire, ROADS, {})
        self.hold_refused(NoDeed, shire.back)

    def test_a_crossing_taken_back_is_gone(self):
        shire = settled(ROADS, HOMES)
        shire.build(0, (1, 1))
        shire.back()
        self.hold_refused_deed(NoPlace, shire, "move", "oak", 4)
        self.assertEqual(shire.cut(1, (0, 1)), 4)
        self.assertIsNone(shire.move("oak", 4))


class DrawnTest(ShireCase):
    def test_behind_drawn_rows_of_deeds_all_is_as_for_a_shire_made_anew(self):
        rng = random.Random(51)
        done = {}
        for turn in range(25):
            roads = drawn_roads(rng, rng.choice([0, 1, 3, 8, 38]))
            shire = Shire(Tree(roads))
            model = Model(roads)
            for step in range(60):
                deed = drawn_deed(rng, model)
                if deed is not None:
                    done[deed[0]] = done.get(deed[0], 0) + 1
                    self.assertEqual(getattr(shire, deed[0])(*deed[1:]), model.do(*deed))
                    self.assertEqual((shire.tree().roads(), shire.homes()), (model.roads, model.homes))
                if step % 12 == 0:
                    with self.subTest(turn=turn, step=step):
                        self.hold_state(shire, model.roads, model.homes)
                        self.assertEqual(all_answers(shire), all_answers(settled(model.roads, model.homes)))
            while model.past:
                shire.back()
                model.do("back")
                self.assertEqual((shire.tree().roads(), shire.homes()), (model.roads, model.homes))
            self.hold_refused(NoDeed, shire.back)
            self.hold_state(shire, roads, {})
        self.assertGreater(min(done[deed] for deed in ("come", "go", "move", "reprice", "cut", "build", "back")), 50)

    def test_a_road_cut_in_two_changes_no_share(self):
        rng = random.Random(52)
        for turn in range(20):
            roads = drawn_roads(rng, rng.choice([1, 3, 8]))
            shire = settled(roads, {name: rng.randrange(len(roads) + 1) for name in NAMES[:turn % 7]})
            ahead = [shire.shares(rule) for rule in RULES]
            for step in range(5):
                k = rng.randrange(1, shire.tree().many())
                shire.cut(k, pair(plain(shire.tree().price(k)) * Fraction(step, 4)))
                self.assertEqual([shire.shares(rule) for rule in RULES], ahead)


class AskedTest(ShireCase):
    def test_the_cost_of_some_names(self):
        shire = settled(ROADS, HOMES)
        self.assertEqual(shire.cost_of([]), (0, 1))
        self.assertEqual(shire.cost_of(["oak", "ash"]), (7, 2))
        self.assertEqual(shire.cost_of(names=["mill"]), (11, 3))
        for names in (["oak", "oak"], ["oak", "mill", "oak"], ["elm"], ["oak", "elm"], [""], ["Oak"], ["elm", "elm"]):
            with self.subTest(names=names):
                self.hold_refused(NoName, shire.cost_of, names)
        self.hold_refused(NoName, Shire(Tree(ROADS)).cost_of, ["oak"])

    def test_the_shares_of_each_rule(self):
        shire = settled(ROADS, HOMES)
        self.assertEqual(shire.shares("even"), {"oak": (5, 4), "mill": (5, 3), "ash": (5, 4)})
        self.assertEqual(shire.shares("evenest"), {"oak": (25, 18), "mill": (25, 18), "ash": (25, 18)})
        self.assertEqual(shire.shares(rule="third"), {"oak": (7, 6), "mill": (11, 6), "ash": (7, 6)})

    def test_the_third_rule_for_more_than_six(self):
        shire = settled(ROADS, {name: 1 for name in NAMES[:6]})
        self.assertEqual(shire.shares("third"), {name: (7, 12) for name in NAMES[:6]})
        shire.come("zz", 0)
        self.hold_refused(TooMany, shire.shares, "third")
        self.assertEqual(len(shire.shares("even")), 7)
        self.assertEqual(len(shire.shares("evenest")), 7)
        shire.go("zz")
        self.assertEqual(shire.shares("third"), {name: (7, 12) for name in NAMES[:6]})

    def test_sharings_are_judged(self):
        shire = settled(ROADS, HOMES)
        self.assertEqual(shire.judge({"ash": (0, 1), "mill": (4, 1), "oak": (1, 6)}), ("refused", ["mill"]))
        self.assertEqual(shire.judge(sharing=shire.shares("third"))[0], "good")
        for sharing in ({}, {"oak": (25, 6)}, {"ash": (0, 1), "mill": (4, 1), "oak": (1, 5)}):
            self.hold_refused(NoSharing, shire.judge, sharing)
        self.assertEqual(Shire(Tree(ROADS)).judge({}), ("good", []))
        self.hold_refused(NoSharing, Shire(Tree(ROADS)).judge, {"oak": (0, 1)})


class OwnTest(ShireCase):
    def test_two_shires_of_one_tree_do_not_touch_each_other(self):
        tree = Tree(ROADS)
        one = Shire(tree)
        other = Shire(tree)
        one.come("oak", 1)
        one.reprice(2, (8, 1))
        one.build(0, (1, 1))
        one.cut(1, (0, 1))
        self.hold_state(other, ROADS, {})
        self.assertEqual(tree.roads(), ROADS)
        other.come("ash", 3)
        other.back()
        self.assertEqual(one.homes(), {"oak": 1})
        self.hold_refused(NoDeed, other.back)
        self.assertEqual(one.tree().many(), 6)

    def test_a_shire_of_another_one_s_tree(self):
        one = settled(ROADS, HOMES)
        other = Shire(one.tree())
        other.reprice(1, (5, 1))
        self.hold_state(one, ROADS, HOMES)
        one.reprice(1, (6, 1))
        self.assertEqual(other.tree().price(1), (5, 1))

    def test_a_tree_that_was_told_stays(self):
        shire = settled(ROADS, HOMES)
        told = shire.tree()
        homes = shire.homes()
        shire.reprice(1, (5, 1))
        shire.cut(2, (1, 1))
        shire.go("oak")
        self.assertEqual(told.roads(), ROADS)
        self.assertEqual(homes, HOMES)

    def test_a_change_of_what_was_told_changes_nothing(self):
        shire = settled(ROADS, HOMES)
        shire.move("oak", 2)
        kept = all_answers(shire)
        table = shire.judge(shire.shares("even"))
        group = shire.judge({"ash": (0, 1), "mill": (4, 1), "oak": (1, 6)})
        self.assertEqual((table[0], group[0]), ("good", "refused"))
        spoil([shire.tree().roads(), shire.homes(), table, group] + [shire.shares(rule) for rule in RULES])
        self.assertEqual(all_answers(shire), kept)
        shire.back()
        self.hold_state(shire, ROADS, HOMES)

    def test_homes_that_were_told_ahead_of_a_deed_do_not_come_back_changed(self):
        shire = settled(ROADS, HOMES)
        told = shire.homes()
        shire.go("oak")
        told["oak"] = 0
        told["elm"] = 0
        shire.homes().clear()
        shire.back()
        self.hold_state(shire, ROADS, HOMES)

    def test_what_was_handed_in_stays_and_is_not_kept(self):
        roads = list(ROADS)
        tree = Tree(roads)
        shire = Shire(tree)
        roads.clear()
        tree.roads().clear()
        for name, k in HOMES.items():
            shire.come(name, k)
        names = ["oak", "ash"]
        sharing = shire.shares("even")
        kept = dict(sharing)
        shire.cost_of(names)
        told = shire.judge(sharing)
        self.assertEqual(names, ["oak", "ash"])
        self.assertEqual(list(sharing.items()), list(kept.items()))
        names.clear()
        sharing.clear()
        self.assertEqual(told, shire.judge(kept))
        self.hold_state(shire, ROADS, HOMES)


if __name__ == "__main__":
    unittest.main()
