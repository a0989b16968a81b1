"""A desk: rows of words are said to it, and it answers each with a text."""

from roadshare.errors import NoText
from roadshare.names import is_name
from roadshare.shires import Shire
from roadshare.stairs import stairs
from roadshare.texts import look_text, read_ratio, read_tree, read_whole, show_ratio, show_tree

# The first words of rows, and what the words behind them are. Behind those of LONG_ASKED come none or more of one kind.
DEEDS = {
    "come": ("name", "number"), "go": ("name",), "move": ("name", "number"), "price": ("number", "fraction"),
    "cut": ("number", "fraction"), "build": ("number", "fraction"), "back": (),
}
ASKED = {"tree": (), "homes": (), "even": (), "evenest": (), "third": (), "stairs": ()}
LONG_ASKED = {"cost": "name", "judge": "share"}


def read_row(row):
    look_text(row)
    words = row.split(" ")
    kinds = kinds_behind(words[0], len(words) - 1)
    return [words[0]] + [read_word(kind, word) for kind, word in zip(kinds, words[1:])]


def kinds_behind(first, many):
    if first in LONG_ASKED:
        return [LONG_ASKED[first]] * many
    kinds = DEEDS.get(first, ASKED.get(first))
    if kinds is None or len(kinds) != many:
        raise NoText("there is no such row")
    return list(kinds)


def read_word(kind, word):
    if kind == "name":
        return read_name(word)
    if kind == "number":
        return read_whole(word)
    if kind == "fraction":
        return read_ratio(word)
    return read_share(word)


def read_name(word):
    if not is_name(word):
        raise NoText("a name has 1 to 8 letters from a to z")
    return word


def read_share(word):
    parts = word.split(":")
    if len(parts) != 2:
        raise NoText("a share is written as a name, a : and a fraction")
    return (read_name(parts[0]), read_ratio(parts[1]))


def sharing_of(rows):
    sharing = {}
    for name, share in rows:
        if name in sharing:
            raise NoText("each village has one share")
        sharing[name] = share
    return sharing


def or_none(words):
    return " ".join(words) if words else "none"


def show_share(name, share):
    amount = show_ratio(share)
    return f"{name}:{amount}"


def show_shares(shares):
    return or_none([show_share(name, shares[name]) for name in sorted(shares)])


def show_homes(homes):
    return or_none([f"{name}:{k}" for name, k in sorted(homes.items())])


def show_stairs(some):
    return or_none([show_share(",".join(group), share) for group, share in some])


def show_payment(road, name, amount):
    share = show_share(name, amount)
    return f"{road}:{share}"


def show_judged(answer):
    if answer[0] == "refused":
        return " ".join(["refused"] + answer[1])
    return " ".join(["good"] + [show_payment(road, name, amount) for road, name, amount in answer[1]])


def done(shire, first, words):
    if first == "come":
        return shire.come(words[0], words[1])
    if first == "go":
        return shire.go(words[0])
    if first == "move":
        return shire.move(words[0], words[1])
    if first == "price":
        return shire.reprice(words[0], words[1])
    if first == "cut":
        return shire.cut(words[0], words[1])
    if first == "build":
        return shire.build(words[0], words[1])
    return shire.back()


def told(shire, first, words):
    if first == "tree":
        return show_tree(shire.tree())
    if first == "homes":
        return show_homes(shire.homes())
    if first == "cost":
        return show_ratio(shire.cost_of(words))
    if first == "judge":
        return show_judged(shire.judge(sharing_of(words)))
    if first == "stairs":
        return show_stairs(stairs(shire.tree(), shire.homes()))
    return show_shares(shire.shares(first))


class Desk:
    def __init__(self, text):
        self.shire = Shire(read_tree(text))

    def say(self, row):
        words = read_row(row)
        first = words[0]
        if first not in DEEDS:
            return told(self.shire, first, words[1:])
        fresh = done(self.shire, first, words[1:])
        return "ok" if fresh is None else f"{fresh}"
