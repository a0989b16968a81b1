"""Fractions and trees as texts (point 20)."""

import random
import unittest
from fractions import Fraction

from helper import BIG, NO_TEXTS, Case, drawn_price, drawn_roads, pair
from roadshare.errors import NoText, NoTree
from roadshare.texts import read_ratio, read_tree, show_ratio, show_tree
from roadshare.trees import Tree

RATIOS = {
    "0": (0, 1), "1": (1, 1), "-1": (-1, 1), "7": (7, 1), "10": (10, 1), "-120": (-120, 1), "1/2": (1, 2),
    "-1/2": (-1, 2), "3/2": (3, 2), "10/3": (10, 3), "1/10": (1, 10), "-20/7": (-20, 7),
    "9" * 30: (BIG, 1), "-" + "9" * 30: (-BIG, 1), "1/" + "9" * 30: (1, BIG), "-1/" + "9" * 30: (-1, BIG),
    "9" * 29 + "8/" + "9" * 30: (BIG - 1, BIG), "1" + "0" * 29: (10 ** 29, 1),
}
NO_RATIOS = [
    "", " ", "-", "/", "-/", "--1", "-", "+1", "+0", "-0", "-0/1", "00", "01", "007", "-01", "-00", "1/", "/2", "-/2",
    "1/-2", "-1/-2", "1/+2", "1/0", "0/0", "1/1", "0/1", "-1/1", "5/1", "0/2", "-0/2", "2/4", "-2/4", "4/2", "3/3",
    "6/3", "1/02", "01/2", "1/2/3", "1/2/", "1//2", "/1/2", "1 ", " 1", "1 /2", "1/ 2", "1 2", "1/2 ", " 1/2", "1\n",
    "\n1", "\n", "1/2\n", "1\t", "1\r", "a", "1a", "a1", "0x1", "1e3", "1.5", "1,5", "1_0", "1_000/7", "none",
    "None", "True", "(1, 2)", "1:2", "1-", "1-2", "\u0661", "\u00b2", "\u00bd", "\uff11", "\u22121", "1/\u0662",
    "0" * 30, "0" * 31, "-" + "0" * 30,
]
# Well written, but for tops or bottoms of more than 30 figures.
LONG_RATIOS = [
    "1" + "0" * 30, "-1" + "0" * 30, "9" * 31, "1/1" + "0" * 30, "-1/" + "9" * 31, "9" * 31 + "/2", "9" * 3000,
    "1/" + "9" * 2998, "9" * 5000, "-1/" + "7" * 5000,
]
TREES = {
    "": [],
    "0 1": [(0, (1, 1))],
    "0 0": [(0, (0, 1))],
    "0 " + "9" * 30: [(0, (BIG, 1))],
    "0 1/" + "9" * 30: [(0, (1, BIG))],
    "2 1/2\n0 3\n2 2/3": [(2, (1, 2)), (0, (3, 1)), (2, (2, 3))],
    "\n".join(["0 1"] * 40): [(0, (1, 1))] * 40,
    "\n".join([f"{k + 1} {k}/41" for k in range(1, 40)] + ["0 7"]):
        [(k + 1, (k, 41)) for k in range(1, 40)] + [(0, (7, 1))],
}
# Roads of a tree with more roads ahead of them that are not so written.
NO_ROADS = [
    "", " ", "0", "1/2", "0 ", " 0", "0  1", "0 1 ", " 0 1", "0 1 2", "0\t1", "0 1\t", "0,1", "0:1", "0 1\r",
    "\r", "0 x", "x 1", "-0 1", "-1 1", "+0 1", "00 1", "01 1", "0/1 1", "1/2 1", "0.0 1", "0 01", "0 -0", "0 +1",
    "0 2/4", "0 1/1", "0 1/0", "0 0/3", "0 1/", "0 1.5", "0 " + "9" * 31, "0 1/1" + "0" * 30, "1" + "0" * 30 + " 1",
    "9" * 31 + " 1", "9" * 5000 + " 1", "0" * 31 + " 1", "\u0660 1", "0 \u0661", "0\u00a01", "\u00b2 1",
]
# So written, but no trees.
NO_TREES = [
    "0 -1", "0 -1/2", "0 -" + "9" * 30, "1 1", "2 1", "2 1\n1 1", "2 1\n3 1\n1 1", "0 1\n2 1", "0 1\n3 1", "0 1\n0 -1",
    "0 1\n3 1\n2 1", "9" * 30 + " 1", "1" + "0" * 29 + " 1", "41 1", "\n".join(["0 1"] * 41), "\n".join(["0 0"] * 500),
]


class RatioTest(Case):
    def test_written(self):
        for text, one in RATIOS.items():
            with self.subTest(text=text):
                told = show_ratio(one)
                self.assertEqual(told, text)
                self.assertIs(type(told), str)

    def test_read(self):
        for text, one in RATIOS.items():
            with self.subTest(text=text):
                self.hold_fraction(read_ratio(text), one)

    def test_not_so_written(self):
        for text in NO_RATIOS:
            with self.subTest(text=text):
                self.hold_refused(NoText, read_ratio, text)

    def test_more_than_thirty_figures(self):
        for text in LONG_RATIOS:
            with self.subTest(text=text[:40]):
                self.hold_refused(NoText, read_ratio, text)

    def test_no_text(self):
        for thing in NO_TEXTS:
            with self.subTest(thing=thing):
                self.hold_refused(NoText, read_ratio, thing)

    def test_more_figures_are_written_all_the_same(self):
        for many in (31, 60, 400, 4000):
            self.assertEqual(show_ratio((10 ** many - 1, 1)), "9" * many)
            self.assertEqual(show_ratio((-1, 10 ** many)), "-1/1" + "0" * many)

    def test_drawn_ones_there_and_back(self):
        rng = random.Random(61)
        for turn in range(400):
            many = 10 ** rng.choice([1, 2, 5, 29, 30])
            one = pair(Fraction(rng.randrange(-many + 1, many), rng.randrange(1, many)))
            text = show_ratio(one)
            with self.subTest(text=text):
                self.assertEqual(Fraction(text), Fraction(*one))
                self.hold_fraction(read_ratio(text), one)
                self.assertEqual(show_ratio(read_ratio(text)), text)

    def test_drawn_texts_are_read_just_where_they_are_so_written(self):
        rng = random.Random(62)
        read = 0
        for turn in range(6000):
            text = "".join(rng.choice("0012345/-") for k in range(rng.randrange(1, 6)))
            with self.subTest(text=text):
                try:
                    told = Fraction(text)
                except (ValueError, ZeroDivisionError):
                    told = None
                if told is not None and str(told) == text:
                    self.assertEqual(read_ratio(text), pair(told))
                    read += 1
                else:
                    self.hold_refused(NoText, read_ratio, text)
        self.assertGreater(read, 500)

    def test_the_arguments_have_their_names(self):
        self.assertEqual(show_ratio(one=(1, 2)), "1/2")
        self.assertEqual(read_ratio(text="1/2"), (1, 2))


class TreeTest(Case):
    def test_written(self):
        for text, roads in TREES.items():
            with self.subTest(text=text):
                told = show_tree(Tree(roads))
                self.assertEqual(told, text)
                self.assertIs(type(told), str)

    def test_read(self):
        for text, roads in TREES.items():
            with self.subTest(text=text):
                told = read_tree(text)
                self.assertIs(type(told), Tree)
                self.assertEqual(told.roads(), roads)

    def test_not_so_written(self):
        for row in NO_ROADS:
            texts = ["0 1\n" + row, row + "\n0 1", "0 1\n" + row + "\n0 1"]
            for text in texts if row == "" else texts + [row]:
                with self.subTest(text=text[:60]):
                    self.hold_refused(NoText, read_tree, text)

    def test_a_line_end_too_many(self):
        for text in ("\n", "0 1\n", "\n0 1", "0 1\n\n0 1", "0 1\n0 1\n", "0 1\r\n0 1", "0 1\r0 1", "0 1\u20280 1"):
            with self.subTest(text=text):
                self.hold_refused(NoText, read_tree, text)

    def test_no_text(self):
        for thing in NO_TEXTS + [Tree([])]:
            with self.subTest(thing=thing):
                self.hold_refused(NoText, read_tree, thing)

    def test_so_written_but_no_tree(self):
        for text in NO_TREES:
            with self.subTest(text=text[:60]):
                self.hold_refused(NoTree, read_tree, text)

    def test_no_text_goes_ahead_of_no_tree(self):
        for text in NO_TREES:
            for row in ("0 01", "0", "-1 1", "0 2/4"):
                with self.subTest(text=text[:60], row=row):
                    self.hold_refused(NoText, read_tree, text + "\n" + row)
                    self.hold_refused(NoText, read_tree, row + "\n" + text)

    def test_drawn_ones_there_and_back(self):
        rng = random.Random(63)
        for turn in range(100):
            roads = drawn_roads(rng, rng.choice([0, 1, 2, 5, 12, 40]))
            text = show_tree(Tree(roads))
            with self.subTest(text=text):
                self.assertEqual(text, "\n".join(f"{to} {Fraction(*price)}" for to, price in roads))
                told = read_tree(text)
                self.assertEqual(told.roads(), roads)
                self.assertEqual(show_tree(told), text)

    def test_prices_of_more_figures_are_written_but_not_read(self):
        text = show_tree(Tree([(0, (1, 10 ** 60)), (1, (10 ** 400 - 1, 7))]))
        self.assertEqual(text, "0 1/1" + "0" * 60 + "\n1 " + "9" * 400 + "/7")
        self.hold_refused(NoText, read_tree, text)

    def test_the_arguments_have_their_names(self):
        self.assertEqual(show_tree(tree=Tree([(0, (1, 2))])), "0 1/2")
        self.assertEqual(read_tree(text="0 1/2").roads(), [(0, (1, 2))])

    def test_the_tree_stays_and_two_trees_of_one_text_are_two(self):
        rng = random.Random(64)
        roads = [(0, drawn_price(rng)) for k in range(5)]
        tree = Tree(roads)
        text = show_tree(tree)
        self.assertEqual(tree.roads(), roads)
        read_tree(text).roads().clear()
        self.assertEqual(read_tree(text).roads(), roads)


if __name__ == "__main__":
    unittest.main()
