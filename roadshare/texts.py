"""Whole numbers, fractions and trees as texts, written and read."""

from roadshare.errors import NoText
from roadshare.ratios import is_ratio
from roadshare.trees import Tree

MOST_FIGURES = 30
FIGURES = "0123456789"


def show_ratio(one):
    top = one[0]
    bottom = one[1]
    return f"{top}" if bottom == 1 else f"{top}/{bottom}"


def show_tree(tree):
    return "\n".join([show_road(road) for road in tree.roads()])


def show_road(road):
    to = road[0]
    price = show_ratio(road[1])
    return f"{to} {price}"


def read_whole(text):
    if not 1 <= len(text) <= MOST_FIGURES or not all([sign in FIGURES for sign in text]):
        raise NoText(f"a whole number is written with 1 to {MOST_FIGURES} figures")
    if text.startswith("0") and text != "0":
        raise NoText("a whole number is written without noughts ahead")
    return int(text)


def read_ratio(text):
    look_text(text)
    below = text.startswith("-")
    numbers = [read_whole(part) for part in (text[1:] if below else text).split("/")]
    top = -numbers[0] if below else numbers[0]
    one = (top, 1 if len(numbers) == 1 else numbers[1])
    # Read so far are -0, bottoms of 0 and 1, what is not in lowest terms, and a second bottom, too.
    if not is_ratio(one) or show_ratio(one) != text:
        raise NoText("a fraction is written in lowest terms, and a whole one without a bottom")
    return one


def read_tree(text):
    look_text(text)
    # Split, the text without signs would be one row.
    rows = text.split("\n") if text != "" else []
    return Tree([read_road(row) for row in rows])


def read_road(row):
    words = row.split(" ")
    if len(words) != 2:
        raise NoText("a road is written as a crossing, a blank and a price")
    return (read_whole(words[0]), read_ratio(words[1]))


def look_text(thing):
    if not isinstance(thing, str):
        raise NoText("this is no text")
