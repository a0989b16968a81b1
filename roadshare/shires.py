"""Shires: a tree and homes that deeds change, and that are asked as they are now."""

from roadshare.costs import cost
from roadshare.errors import NoDeed, NoName, NoPrice, TooMany
from roadshare.evens import even_shares
from roadshare.judging import judged
from roadshare.names import is_name
from roadshare.ratios import is_less, rest_of
from roadshare.stairs import evenest
from roadshare.thirds import third
from roadshare.trees import MOST_ROADS, Tree, is_price

MOST_VILLAGES = 12


def look_price(price):
    if not is_price(price):
        raise NoPrice("a price is a fraction from 0 on")


def look_room(tree):
    # The market is a crossing without a road.
    if tree.many() - 1 >= MOST_ROADS:
        raise TooMany(f"a tree has at most {MOST_ROADS} roads")


def with_road(tree, k, road):
    roads = tree.roads()
    roads[k - 1] = road
    return Tree(roads)


def with_one_more(tree, road):
    return Tree(tree.roads() + [road])


class Shire:
    # No deed changes the tree or the dict of the deed ahead: each makes new ones, so that the old ones can come back.
    def __init__(self, tree):
        self.land = tree
        self.places = {}
        self.past = []

    def come(self, name, k):
        if not is_name(name) or name in self.places:
            raise NoName("a village comes with a name, which no other one has")
        self.land.look_crossing(k)
        if len(self.places) >= MOST_VILLAGES:
            raise TooMany(f"a shire has at most {MOST_VILLAGES} villages")
        self.place(name, k)

    def go(self, name):
        self.look_village(name)
        places = dict(self.places)
        places.pop(name)
        self.do(self.land, places)

    def move(self, name, k):
        self.look_village(name)
        self.land.look_crossing(k)
        self.place(name, k)

    def reprice(self, k, price):
        self.land.look_road(k)
        look_price(price)
        self.do(with_road(self.land, k, (self.land.leads_to(k), price)), self.places)

    def cut(self, k, price):
        whole = self.land.price(k)
        look_price(price)
        if is_less(whole, price):
            raise NoPrice("a part of a road costs at most as much as the road")
        look_room(self.land)
        fresh = self.land.many()
        longer = with_one_more(self.land, (self.land.leads_to(k), price))
        self.do(with_road(longer, k, (fresh, rest_of(whole, price))), self.places)
        return fresh

    def build(self, to, price):
        self.land.look_crossing(to)
        look_price(price)
        look_room(self.land)
        fresh = self.land.many()
        self.do(with_one_more(self.land, (to, price)), self.places)
        return fresh

    def back(self):
        if not self.past:
            raise NoDeed("there is no deed to take back")
        ahead = self.past.pop()
        self.land = ahead[0]
        self.places = ahead[1]

    def tree(self):
        return self.land

    def homes(self):
        return dict(self.places)

    def cost_of(self, names):
        for name in names:
            self.look_village(name)
        if len(set(names)) != len(names):
            raise NoName("each name comes once")
        return cost(self.land, self.places, names)

    def shares(self, rule):
        if rule == "even":
            return even_shares(self.land, self.places)
        if rule == "evenest":
            return evenest(self.land, self.places)
        return third(self.land, self.places)

    def judge(self, sharing):
        return judged(self.land, self.places, sharing)

    def look_village(self, name):
        if not is_name(name) or name not in self.places:
            raise NoName("there is no village of this name")

    def place(self, name, k):
        places = dict(self.places)
        places[name] = k
        self.do(self.land, places)

    def do(self, land, places):
        self.past.append((self.land, self.places))
        self.land = land
        self.places = places
