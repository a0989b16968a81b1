"""The promise over the whole program (point 3), from a tree's text and rows of deeds to all answers at a desk."""

import itertools
import random
import unittest
from fractions import Fraction

from helper import BIG, NAMES, Case, all_groups, paid_by, pair, plain, plain_cost, plain_way, rank
from roadshare.desk import Desk
from roadshare.errors import NoDeed, NoSharing, ShareError, TooMany
from roadshare.groups import gains
from roadshare.shires import Shire
from roadshare.texts import read_ratio, read_tree, show_ratio, show_tree
from roadshare.thirds import levels

RULES = ["even", "evenest", "third"]
ASKED = ["tree", "homes", "cost", "even", "evenest", "third", "stairs", "judge"]


def drawn_text(rng, many):
    """A tree's text with prices of few figures, so that all that is told can be said again."""
    roads = []
    for k in range(1, many + 1):
        roads.append(f"{rng.randrange(k)} {Fraction(rng.randrange(9), rng.choice([1, 1, 2, 3]))}")
    return "\n".join(roads)


def drawn_row(rng, crossings):
    """Some row of a deed, perhaps one that is refused."""
    name = rng.choice(NAMES[:8])
    k = rng.randrange(crossings + 1)
    price = Fraction(rng.randrange(-1, 9), rng.choice([1, 2, 3]))
    return rng.choice([
        f"come {name} {k}", f"come {name} {k}", f"come {name} {k}", f"move {name} {k}", f"go {name}",
        f"price {k} {price}", f"cut {k} {price / 4}", f"build {k} {price}", "back",
    ])


def said(desk, row):
    """The answer, or the kind of the refusal."""
    try:
        return desk.say(row)
    except ShareError as refusal:
        return type(refusal)


def homes_of(desk):
    told = desk.say("homes")
    rows = [] if told == "none" else [word.split(":") for word in told.split(" ")]
    return {name: int(k) for name, k in rows}


def shares_of(desk, rule):
    told = desk.say(rule)
    rows = [] if told == "none" else [word.split(":") for word in told.split(" ")]
    return {name: read_ratio(share) for name, share in rows}


def judge_row(sharing):
    return " ".join(["judge"] + [f"{name}:{show_ratio(share)}" for name, share in sharing.items()])


def anew(desk):
    """A desk made of the tree's text as it is now, to which the villages come."""
    other = Desk(desk.say("tree"))
    for name, k in homes_of(desk).items():
        other.say(f"come {name} {k}")
    return other


def drawn_desk(rng, roads, steps):
    desk = Desk(drawn_text(rng, roads))
    for step in range(steps):
        said(desk, drawn_row(rng, read_tree(desk.say("tree")).many()))
    return desk


class WholeCase(Case):
    def hold_table(self, roads, homes, sharing, words):
        by_road = {}
        by_name = {name: Fraction(0) for name in homes}
        for word in words:
            road, name, amount = word.split(":")
            self.assertGreater(Fraction(amount), 0)
            self.assertIn(int(road), plain_way(roads, homes[name]))
            by_road[int(road)] = by_road.get(int(road), Fraction(0)) + Fraction(amount)
            by_name[name] += Fraction(amount)
        needed = {k for name in homes for k in plain_way(roads, homes[name])}
        self.assertEqual(by_road, {k: plain(roads[k - 1][1]) for k in needed if roads[k - 1][1] != (0, 1)})
        self.assertEqual(by_name, {name: plain(share) for name, share in sharing.items()})

    def hold_judged(self, desk, sharing):
        """Told is a table or a group, and just the one that there is; back comes which one."""
        roads = read_tree(desk.say("tree")).roads()
        homes = homes_of(desk)
        told = desk.say(judge_row(sharing)).split(" ")
        worse = [group for group in all_groups(homes) if paid_by(sharing, group) > plain_cost(roads, homes, group)]
        self.assertEqual(told[0], "refused" if worse else "good")
        if worse:
            self.assertIn(told[1:], worse)
        else:
            self.hold_table(roads, homes, sharing, told[1:])
        return told[0]

    def hold_rules(self, desk):
        """Each rule shares out the cost of all villages, and no group refuses it."""
        homes = homes_of(desk)
        whole = desk.say(" ".join(["cost"] + sorted(homes)))
        for rule in RULES:
            if rule == "third" and len(homes) > 6:
                self.hold_refused(TooMany, desk.say, rule)
            else:
                shares = shares_of(desk, rule)
                self.assertEqual(sorted(shares), sorted(homes))
                self.assertEqual(paid_by(shares, shares), Fraction(whole))
                self.assertEqual(self.hold_judged(desk, shares), "good")


class DeedsTest(WholeCase):
    def test_all_answers_are_those_of_a_desk_made_anew(self):
        rng = random.Random(81)
        refused = 0
        for turn in range(30):
            desk = Desk(drawn_text(rng, rng.choice([0, 1, 3, 6])))
            for step in range(30):
                ahead = [said(desk, row) for row in ASKED]
                row = drawn_row(rng, read_tree(desk.say("tree")).many())
                answer = said(desk, row)
                behind = [said(desk, row) for row in ASKED]
                with self.subTest(turn=turn, step=step, row=row):
                    if isinstance(answer, type):
                        refused += 1
                        self.assertEqual(behind, ahead)
                    self.assertEqual(behind, [said(anew(desk), row) for row in ASKED])
                    for group in all_groups(homes_of(desk))[::5]:
                        row = " ".join(["cost"] + group)
                        self.assertEqual(desk.say(row), anew(desk).say(row))
        self.assertGreater(refused, 100)

    def test_all_deeds_taken_back(self):
        rng = random.Random(82)
        for turn in range(20):
            text = drawn_text(rng, rng.choice([0, 1, 3, 6]))
            desk = Desk(text)
            for step in range(40):
                said(desk, drawn_row(rng, read_tree(desk.say("tree")).many()))
            while said(desk, "back") is not NoDeed:
                pass
            self.assertEqual(desk.say("tree"), text)
            self.assertEqual(desk.say("homes"), "none")

    def test_a_desk_tells_what_a_shire_tells(self):
        rng = random.Random(83)
        for turn in range(25):
            desk = drawn_desk(rng, 4, 20)
            homes = homes_of(desk)
            shire = Shire(read_tree(desk.say("tree")))
            for name, k in homes.items():
                shire.come(name, k)
            self.assertEqual(show_tree(shire.tree()), desk.say("tree"))
            self.assertEqual(show_ratio(shire.cost_of(sorted(homes))), desk.say(" ".join(["cost"] + sorted(homes))))
            for rule in RULES[:2] if len(homes) > 6 else RULES:
                self.assertEqual(shire.shares(rule), shares_of(desk, rule))


class RulesTest(WholeCase):
    def test_each_rule_shares_out_the_cost_of_all_and_is_good(self):
        rng = random.Random(84)
        for turn in range(40):
            with self.subTest(turn=turn):
                self.hold_rules(drawn_desk(rng, rng.choice([1, 3, 6, 10]), 25))

    def test_of_every_sharing_a_table_or_a_group(self):
        rng = random.Random(85)
        seen = {"good": 0, "refused": 0}
        for turn in range(40):
            desk = drawn_desk(rng, rng.choice([1, 3, 6]), 20)
            homes = homes_of(desk)
            for rule in ("even", "evenest"):
                shares = shares_of(desk, rule)
                for amount in (Fraction(0), Fraction(1, 5), Fraction(-3, 2)):
                    names = rng.sample(sorted(homes), min(2, len(homes)))
                    for name, sign in zip(names, (1, -1) if len(names) == 2 else (0,)):
                        shares[name] = pair(plain(shares[name]) + sign * amount)
                    seen[self.hold_judged(desk, shares)] += 1
            self.hold_refused(NoSharing, desk.say, judge_row(dict(shares_of(desk, "even"), nobody=(0, 1))))
        self.assertGreater(min(seen.values()), 50)

    def test_a_road_cut_in_two_changes_no_share(self):
        rng = random.Random(86)
        for turn in range(30):
            desk = drawn_desk(rng, rng.choice([1, 3, 6]), 20)
            ahead = [said(desk, row) for row in RULES + ["stairs"]]
            for part in (Fraction(0), Fraction(1), Fraction(1, 3)):
                tree = read_tree(desk.say("tree"))
                k = rng.randrange(1, tree.many())
                self.assertEqual(desk.say(f"cut {k} {plain(tree.price(k)) * part}"), str(tree.many()))
                self.assertEqual([said(desk, row) for row in RULES + ["stairs"]], ahead)

    def test_even_shares_are_the_mean_over_all_orders_of_coming(self):
        rng = random.Random(87)
        for turn in range(30):
            desk = Desk(drawn_text(rng, rng.choice([1, 3, 6])))
            crossings = read_tree(desk.say("tree")).many()
            names = rng.sample(NAMES, turn % 5)
            for name in names:
                desk.say(f"come {name} {rng.randrange(crossings)}")
            added = {name: Fraction(0) for name in names}
            orders = list(itertools.permutations(names))
            for order in orders:
                for place, name in enumerate(order):
                    costs = [Fraction(desk.say(" ".join(("cost",) + order[:many]))) for many in (place, place + 1)]
                    added[name] += costs[1] - costs[0]
            shares = shares_of(desk, "even")
            self.assertEqual({name: plain(shares[name]) for name in names}, {
                name: added[name] / len(orders) for name in names
            })

    def test_nobody_could_hand_anything_on_in_the_evenest_sharing(self):
        rng = random.Random(88)
        pairs = 0
        for turn in range(30):
            desk = drawn_desk(rng, 6, 25)
            told = desk.say("stairs")
            groups = [] if told == "none" else [word.split(":")[0].split(",") for word in told.split(" ")]
            shares = shares_of(desk, "evenest")
            for group in groups:
                self.assertEqual(paid_by(shares, group), Fraction(desk.say(" ".join(["cost"] + group))))
            for one, other in itertools.permutations(shares, 2):
                if plain(shares[one]) > plain(shares[other]):
                    pairs += 1
                    self.assertTrue([group for group in groups if other in group and one not in group])
        self.assertGreater(pairs, 50)

    def test_the_third_rule_s_weights_show_that_no_other_sharing_is_better(self):
        rng = random.Random(89)
        seen = 0
        for turn in range(40):
            desk = drawn_desk(rng, 5, 25)
            homes = homes_of(desk)
            if len(homes) > 6:
                continue
            tree = read_tree(desk.say("tree"))
            known = gains(tree, homes, shares_of(desk, "third"))
            told = levels(tree, homes)
            for gain, rows in told:
                least = [group for group, other in known if plain(other) <= plain(gain)]
                self.assertEqual([group for group, weight in rows], least)
                self.assertTrue(all(weight[0] > 0 for group, weight in rows))
                for name in homes:
                    self.assertEqual(sum(plain(weight) for group, weight in rows if name in group), 1)
            if len(homes) > 1:
                seen += 1
                fixing = [[Fraction(name in group) for name in homes] for group, weight in told[-1][1]]
                self.assertEqual(rank(fixing), len(homes))
        self.assertGreater(seen, 20)


class GoodTimeTest(WholeCase):
    def test_forty_roads_and_twelve_villages(self):
        rng = random.Random(90)
        with self.hold_good_time():
            prices = [Fraction(rng.randrange(1, BIG), rng.randrange(1, BIG)) for k in range(40)]
            desk = Desk("\n".join(f"{rng.randrange(max(0, k - 2), k + 1)} {price}" for k, price in enumerate(prices)))
            for k, name in enumerate(NAMES):
                desk.say(f"come {name} {40 - 2 * k}")
                if k < 6:
                    self.assertNotEqual(desk.say("third"), "none")
            for row in ("tree", "homes", "even", "evenest", "stairs"):
                self.assertNotEqual(desk.say(row), "none")
            self.hold_refused(TooMany, desk.say, "third")


if __name__ == "__main__":
    unittest.main()
