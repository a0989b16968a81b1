"""A desk: rows said to it, its answers and its refusals (points 18, 19 and 21)."""

import random
import unittest
from fractions import Fraction

from helper import BIG, NAMES, NO_NAMES, NO_TEXTS, Case, Model, drawn_deed, drawn_roads, pair, plain
from roadshare.desk import Desk
from roadshare.errors import NoDeed, NoName, NoPlace, NoPrice, NoSharing, NoText, NoTree, TooMany
from roadshare.evens import even_shares
from roadshare.judging import judged
from roadshare.stairs import evenest, stairs
from roadshare.texts import show_tree
from roadshare.thirds import third
from roadshare.trees import Tree

#    0 (market)
#    |
#    2
#   / \
#  1   3
TEXT = "2 1/2\n0 3\n2 2/3"
HOMES = {"oak": 1, "mill": 3, "ash": 1}
RULES = {"even": even_shares, "evenest": evenest, "third": third}
ASKED = ["tree", "homes", "cost", "even", "evenest", "stairs", "judge", "cost oak", "cost mill ash", "judge oak:0"]


def desk_with(text, homes):
    desk = Desk(text)
    for name, k in homes.items():
        desk.say(f"come {name} {k}")
    return desk


def written(told):
    return str(plain(told))


def shares_row(shares):
    return " ".join(f"{name}:{written(shares[name])}" for name in sorted(shares)) or "none"


def judged_row(answer):
    if answer[0] == "refused":
        return " ".join(["refused"] + answer[1])
    return " ".join(["good"] + [f"{road}:{name}:{written(amount)}" for road, name, amount in answer[1]])


def row_of(deed):
    words = [{"reprice": "price"}.get(deed[0], deed[0])]
    return " ".join(words + [written(word) if isinstance(word, tuple) else str(word) for word in deed[1:]])


def is_short(roads):
    """Whether no price has more figures than a row may have."""
    return all(max(price) <= BIG for to, price in roads)


class DeskCase(Case):
    def hold_said(self, desk, row, wanted):
        told = desk.say(row)
        self.assertEqual(told, wanted)
        self.assertIs(type(told), str)

    def told(self, desk):
        """The answers to all that can be asked; refusals by their kinds."""
        answers = []
        for row in ASKED + ["third"]:
            try:
                answers.append(desk.say(row))
            except (NoName, NoSharing, TooMany) as refusal:
                answers.append(type(refusal))
        return answers

    def hold_refused_row(self, refusal, desk, row):
        """Refused, it changes nothing, and is no deed that could be taken back."""
        desk.say("build 0 1/77")
        ahead = self.told(desk)
        desk.say("build 0 1/78")
        behind = self.told(desk)
        self.hold_refused(refusal, desk.say, row)
        self.assertEqual(self.told(desk), behind)
        desk.say("back")
        self.assertEqual(self.told(desk), ahead)
        desk.say("back")
        self.hold_refused(refusal, desk.say, row)

    def hold_state(self, desk, roads, homes):
        """Each answer is what is told of the tree and the homes."""
        tree = Tree(roads)
        self.hold_said(desk, "tree", show_tree(tree))
        self.hold_said(desk, "homes", " ".join(f"{name}:{homes[name]}" for name in sorted(homes)) or "none")
        for rule, function in RULES.items():
            if rule == "third" and len(homes) > 6:
                self.hold_refused(TooMany, desk.say, rule)
            else:
                self.hold_said(desk, rule, shares_row(function(tree, homes)))
        steps = [f"{','.join(group)}:{written(share)}" for group, share in stairs(tree, homes)]
        self.hold_said(desk, "stairs", " ".join(steps) or "none")


class MadeTest(DeskCase):
    def test_made_of_a_tree_s_text(self):
        for text in ("", "0 0", TEXT, "\n".join(["0 1"] * 40)):
            self.hold_said(Desk(text), "tree", text)
        self.assertEqual(Desk(text=TEXT).say(row="tree"), TEXT)

    def test_no_text(self):
        for text in NO_TEXTS + ["0", "0 01", "0 1\n", " ", "0 2/4", "-1 1", "0 1\n0 1/1" + "0" * 30, "9" * 31 + " 1"]:
            with self.subTest(text=text):
                self.hold_refused(NoText, Desk, text)

    def test_no_tree(self):
        for text in ("1 1", "0 -1", "2 1\n1 1", "0 1\n3 1", "\n".join(["0 1"] * 41), "9" * 30 + " 1"):
            with self.subTest(text=text):
                self.hold_refused(NoTree, Desk, text)
        self.hold_refused(NoText, Desk, "1 1\n0 01")

    def test_two_desks_do_not_touch_each_other(self):
        one = Desk(TEXT)
        other = Desk(TEXT)
        one.say("come oak 1")
        one.say("price 2 7")
        self.hold_state(other, [(2, (1, 2)), (0, (3, 1)), (2, (2, 3))], {})


class AnswersTest(DeskCase):
    def test_without_villages(self):
        for text in ("", TEXT):
            desk = Desk(text)
            for row, wanted in [
                ("homes", "none"), ("cost", "0"), ("even", "none"), ("evenest", "none"), ("third", "none"),
                ("judge", "good"), ("stairs", "none"), ("tree", text),
            ]:
                self.hold_said(desk, row, wanted)

    def test_deeds(self):
        desk = Desk(TEXT)
        for row, wanted in [
            ("come oak 1", "ok"), ("come mill 0", "ok"), ("move mill 3", "ok"), ("come ash 2", "ok"),
            ("move ash 2", "ok"), ("homes", "ash:2 mill:3 oak:1"), ("go ash", "ok"), ("homes", "mill:3 oak:1"),
            ("back", "ok"), ("homes", "ash:2 mill:3 oak:1"), ("price 2 10/3", "ok"), ("tree", "2 1/2\n0 10/3\n2 2/3"),
            ("price 3 0", "ok"), ("tree", "2 1/2\n0 10/3\n2 0"), ("cut 2 1/3", "4"), ("tree", "2 1/2\n4 3\n2 0\n0 1/3"),
            ("build 4 5/7", "5"), ("tree", "2 1/2\n4 3\n2 0\n0 1/3\n4 5/7"), ("come abcdefgh 5", "ok"),
            ("back", "ok"), ("back", "ok"), ("back", "ok"), ("tree", "2 1/2\n0 10/3\n2 0"), ("build 0 0", "4"),
            ("cut 1 1/2", "5"), ("cut 1 0", "6"), ("tree", "6 0\n0 10/3\n2 0\n0 0\n2 1/2\n5 0"),
        ]:
            with self.subTest(row=row):
                self.hold_said(desk, row, wanted)

    def test_asked(self):
        desk = desk_with(TEXT, HOMES)
        for row, wanted in [
            ("tree", TEXT), ("homes", "ash:1 mill:3 oak:1"),
            ("cost", "0"), ("cost oak", "7/2"), ("cost oak ash", "7/2"), ("cost oak mill ash", "25/6"),
            ("even", "ash:5/4 mill:5/3 oak:5/4"), ("evenest", "ash:25/18 mill:25/18 oak:25/18"),
            ("third", "ash:7/6 mill:11/6 oak:7/6"), ("stairs", "ash,mill,oak:25/18"),
            ("judge ash:0 mill:3 oak:7/6", "good 1:oak:1/2 2:mill:7/3 2:oak:2/3 3:mill:2/3"),
            ("judge oak:7/6 mill:3 ash:0", "good 1:oak:1/2 2:mill:7/3 2:oak:2/3 3:mill:2/3"),
            ("judge ash:0 mill:4 oak:1/6", "refused mill"),
        ]:
            with self.subTest(row=row):
                self.hold_said(desk, row, wanted)

    def test_a_group_that_is_told_has_its_names_behind_it(self):
        desk = desk_with("0 6\n1 0\n1 0\n0 6", {"b": 2, "a": 3, "c": 4})
        self.hold_said(desk, "judge a:4 b:4 c:4", "refused a b")
        self.hold_said(desk, "judge a:3 b:3 c:6", judged_row(judged(
            Tree([(0, (6, 1)), (1, (0, 1)), (1, (0, 1)), (0, (6, 1))]), {"b": 2, "a": 3, "c": 4},
            {"a": (3, 1), "b": (3, 1), "c": (6, 1)},
        )))

    def test_a_share_below_0(self):
        desk = desk_with("0 4", {"a": 1, "b": 1})
        self.hold_said(desk, "judge a:-1/2 b:9/2", "refused b")

    def test_a_table_without_rows(self):
        self.hold_said(desk_with("0 0", {"a": 1, "b": 0}), "judge a:0 b:0", "good")

    def test_several_stairs(self):
        desk = desk_with(TEXT, {"oak": 1, "inn": 0, "mill": 3})
        self.hold_said(desk, "stairs", "inn:0 inn,mill,oak:25/12")

    def test_numbers_of_thirty_figures(self):
        nines = "9" * 30
        desk = Desk(f"0 {nines}/{10 ** 29}")
        self.hold_said(desk, f"price 1 1/{nines}", "ok")
        self.hold_said(desk, "tree", f"0 1/{nines}")
        self.hold_said(desk, "come oak 1", "ok")
        self.hold_said(desk, f"judge oak:1/{nines}", f"good 1:oak:1/{nines}")
        self.hold_refused_row(NoPlace, desk, f"build {nines} 1")

    def test_what_came_of_cuts_is_written_but_not_read(self):
        desk = desk_with("0 1", {"oak": 1})
        for turn in range(3):
            desk.say(f"cut 1 1/{10 ** 29 + turn}")
        rest = 1 - sum(Fraction(1, 10 ** 29 + turn) for turn in range(3))
        self.assertEqual(desk.say("tree").split("\n")[0], f"4 {rest}")
        self.hold_said(desk, "even", "oak:1")
        self.hold_refused_row(NoText, desk, f"price 1 {rest}")

    def test_drawn_sharings_are_judged(self):
        rng = random.Random(71)
        for turn in range(60):
            roads = [(to, (rng.randrange(9), 1)) for to, price in drawn_roads(rng, rng.choice([1, 3, 8]))]
            homes = {name: rng.randrange(len(roads) + 1) for name in rng.sample(NAMES, 1 + turn % 5)}
            desk = desk_with(show_tree(Tree(roads)), homes)
            shares = {name: plain(share) for name, share in even_shares(Tree(roads), homes).items()}
            for part in (Fraction(0), Fraction(1), Fraction(-1, 3)):
                one, other = (rng.sample(sorted(homes), 2) + [""])[:2] if len(homes) > 1 else ("", "")
                moved = {name: share + part * ((name == one) - (name == other)) for name, share in shares.items()}
                sharing = {name: pair(share) for name, share in moved.items()}
                row = " ".join(["judge"] + [f"{name}:{share}" for name, share in moved.items()])
                with self.subTest(row=row):
                    self.hold_said(desk, row, judged_row(judged(Tree(roads), homes, sharing)))


class NoTextTest(DeskCase):
    def hold_no_text(self, rows, homes=HOMES):
        desk = desk_with(TEXT, homes)
        for row in rows:
            with self.subTest(row=row):
                self.hold_refused_row(NoText, desk, row)

    def test_unknown_words(self):
        self.hold_no_text([
            "", " ", "  ", "oak", "comes oak 1", "Come oak 1", "COME oak 1", "com oak 1", "reprice 1 1", "shares even",
            "cost_of oak", "judged", "none", "ok", "0", "1", "levels", "gains", "say", "\n", "tree\n", "\ntree",
            "tree\ttree", "back\n", "back\t", "back;back", "back\nback", "go oak\n", "come elm 1\n", "price 1 1\n",
            "cost oak\n", "EVEN",
        ])

    def test_a_thing_that_is_no_text(self):
        self.hold_no_text(NO_TEXTS + [["back"], ("tree",), b"tree"])

    def test_a_word_too_few_or_too_many(self):
        self.hold_no_text([
            "come", "come elm", "come elm 1 1", "go", "go oak ash", "go oak 1", "move", "move oak", "move oak 1 2",
            "price", "price 1", "price 1 1 1", "cut", "cut 1", "cut 1 0 0", "build", "build 1", "build 1 1 1", "back 1",
            "back back", "tree 1", "tree tree", "homes oak", "even oak", "evenest 1", "third third", "stairs 1",
            "come 1 elm", "move 1 oak", "price 1/2 1", "cut 1/2 0", "build 1/2 1",
        ])

    def test_blanks(self):
        for row in ("come elm 1", "go oak", "move oak 1", "price 1 1", "cut 1 0", "build 1 1", "back", "tree", "homes",
                    "cost", "cost oak", "cost oak ash", "even", "evenest", "third", "judge", "stairs",
                    "judge ash:0 mill:3 oak:7/6"):
            spread = [row.replace(" ", "  ", 1), row.replace(" ", "\t", 1), row.replace(" ", "\n", 1)]
            self.hold_no_text([" " + row, row + " ", "  " + row, row + "  "] + [one for one in spread if one != row])

    def test_words_that_are_no_names(self):
        rows = []
        # With a blank within it is two words, and both are names.
        for name in [name for name in NO_NAMES if name != "a b"]:
            rows += [f"come {name} 1", f"go {name}", f"move {name} 1"]
            rows += [f"cost {name}", f"cost oak {name}", f"judge {name}:1"]
        self.hold_no_text(rows)

    def test_words_that_are_no_numbers(self):
        for k in ("00", "01", "007", "-1", "-0", "+1", "1/2", "1.0", "x", "0x1", "1_0", "1" + "0" * 30, "9" * 31,
                  "9" * 5000, "\u0661", "\u00b2", ""):
            self.hold_no_text([f"come elm {k}", f"move oak {k}", f"price {k} 1", f"cut {k} 0", f"build {k} 1"])

    def test_words_that_are_no_fractions(self):
        for one in ("01", "-0", "+1", "1/1", "2/4", "0/3", "1/0", "1/", "/2", "1/2/3", "1.5", "x", "1/-2",
                    "1" + "0" * 30, "1/1" + "0" * 30, "-" + "9" * 31, "\u00bd", ""):
            self.hold_no_text([f"price 1 {one}", f"cut 1 {one}", f"build 1 {one}", f"judge oak:{one}"])

    def test_words_that_are_no_shares(self):
        self.hold_no_text([
            "judge oak", "judge oak:", "judge :1", "judge :", "judge oak:1:2", "judge oak::1", "judge 1:oak", "judge 1",
            "judge oak: 1", "judge oak :1", "judge oak=1", "judge oak:1,ash:2", "judge oak/1", "judge oak:1 ash",
        ])

    def test_a_name_twice_in_judge(self):
        self.hold_no_text([
            "judge oak:0 oak:0", "judge ash:0 mill:3 oak:7/6 oak:7/6", "judge oak:1 ash:0 oak:2", "judge elm:1 elm:1",
        ])
        self.hold_no_text(["judge oak:0 oak:0"], {})

    def test_ahead_of_all_other_refusals(self):
        self.hold_no_text([
            "come oak 01", "come oak 99 1", "come Oak 99", "go elm 1", "move elm 01", "move elm x", "price 0 01",
            "price 99 2/4", "price 01 -1", "cut 99 2/4", "cut 01 -1", "build 99 1/1", "build 099 -1", "cost elm Oak",
            "cost oak oak OAK", "cost elm 1", "judge elm:1 oak:01", "judge elm:1 oak", "judge elm:5 elm:5", "third 7",
        ])
        desk = desk_with(TEXT, {})
        while True:
            try:
                desk.say("back")
            except NoDeed:
                break
        self.hold_refused(NoText, desk.say, "back 1")
        full = desk_with("\n".join(["0 1"] * 40), {name: 0 for name in NAMES})
        for row in ("come oak 01", "come OAK 1", "cut 1 01", "build 01 1", "third 1", "build 1 "):
            self.hold_refused(NoText, full.say, row)


class RefusedTest(DeskCase):
    def hold_all_refused(self, refusal, rows, homes=HOMES):
        desk = desk_with(TEXT, homes)
        for row in rows:
            with self.subTest(row=row):
                self.hold_refused_row(refusal, desk, row)

    def test_names(self):
        self.hold_all_refused(NoName, [
            "come oak 1", "come oak 99", "go elm", "go a", "move elm 1", "move elm 99", "cost elm", "cost oak elm",
            "cost oak oak", "cost elm elm", "cost oak ash oak",
        ])

    def test_places(self):
        self.hold_all_refused(NoPlace, [
            "come elm 99", "come elm " + "9" * 30, "move oak 41", "price 0 1", "price 99 1", "price 99 -1", "cut 0 0",
            "cut 99 0", "cut 0 -1", "build 99 1", "build 99 -1", "build " + "9" * 30 + " 0",
        ])

    def test_prices(self):
        self.hold_all_refused(NoPrice, [
            "price 1 -1", "price 2 -1/2", "price 1 -" + "9" * 30, "cut 1 -1", "cut 1 1", "cut 2 4", "cut 2 -1/7",
            "cut 2 10/3", "build 0 -1", "build 3 -1/2",
        ])

    def test_too_many(self):
        roads = "\n".join(["0 1"] * 40)
        desk = desk_with(roads, {name: 0 for name in NAMES})
        for row in ("come oak 1", "cut 1 0", "cut 40 1", "build 0 0", "build 40 1", "third"):
            with self.subTest(row=row):
                self.hold_refused(TooMany, desk.say, row)
                self.hold_state(desk, [(0, (1, 1))] * 40, {name: 0 for name in NAMES})
        self.hold_refused(NoName, desk.say, "come ab 99")
        self.hold_refused(NoPlace, desk.say, "come oak 99")
        self.hold_refused(NoPlace, desk.say, "build 99 -1")
        self.hold_refused(NoPrice, desk.say, "build 40 -1")
        self.hold_refused(NoPrice, desk.say, "cut 40 2")

    def test_the_third_rule_for_seven(self):
        desk = desk_with(TEXT, {name: 1 for name in NAMES[:6]})
        self.hold_said(desk, "third", " ".join(f"{name}:7/12" for name in sorted(NAMES[:6])))
        desk.say("come zz 1")
        self.hold_refused_row(TooMany, desk, "third")
        self.hold_said(desk, "even", " ".join(f"{name}:1/2" for name in sorted(NAMES[:6] + ["zz"])))

    def test_sharings(self):
        self.hold_all_refused(NoSharing, [
            "judge", "judge oak:25/6", "judge ash:0 mill:3", "judge ash:0 mill:3 oak:1",
            "judge ash:0 mill:3 oak:7/6 elm:0", "judge ash:0 mill:3 elm:7/6",
        ])
        self.hold_all_refused(NoSharing, ["judge oak:0", "judge oak:1"], {})

    def test_nothing_to_take_back(self):
        desk = Desk(TEXT)
        self.hold_refused(NoDeed, desk.say, "back")
        self.hold_refused(NoPlace, desk.say, "come oak 9")
        self.hold_refused(NoDeed, desk.say, "back")
        desk.say("come oak 1")
        desk.say("tree")
        self.hold_said(desk, "back", "ok")
        self.hold_refused(NoDeed, desk.say, "back")
        self.hold_said(desk, "homes", "none")


class DrawnTest(DeskCase):
    def test_behind_drawn_rows_of_deeds(self):
        rng = random.Random(72)
        said = 0
        for turn in range(20):
            roads = drawn_roads(rng, rng.choice([0, 1, 3, 8, 36]))
            desk = Desk(show_tree(Tree(roads)))
            model = Model(roads)
            for step in range(50):
                deed = drawn_deed(rng, model)
                if deed is None or not is_short([(0, part) for part in deed if isinstance(part, tuple)]):
                    continue
                said += 1
                told = model.do(*deed)
                with self.subTest(turn=turn, deed=deed):
                    self.hold_said(desk, row_of(deed), "ok" if told is None else str(told))
                if step % 10 == 0:
                    with self.subTest(turn=turn, step=step):
                        self.hold_state(desk, model.roads, model.homes)
        self.assertGreater(said, 500)


if __name__ == "__main__":
    unittest.main()
