"""Trees of roads that lead to one market, the crossing 0."""

from roadshare.errors import NoPlace, NoTree
from roadshare.ratios import is_ratio
from roadshare.wholes import is_whole

MOST_ROADS = 40


def is_price(thing):
    return is_ratio(thing) and thing[0] >= 0


def is_road(thing, many):
    if not isinstance(thing, tuple) or len(thing) != 2:
        return False
    to = thing[0]
    return is_whole(to) and 0 <= to < many and is_price(thing[1])


def look_roads(thing):
    if not isinstance(thing, list):
        raise NoTree("a tree is made of a list of roads")
    if len(thing) > MOST_ROADS:
        raise NoTree(f"a tree has at most {MOST_ROADS} roads")
    many = len(thing) + 1
    for road in thing:
        if not is_road(road, many):
            raise NoTree("a road is a tuple of one of the tree's crossings and a price from 0 on")


def way_from(roads, k):
    way = []
    place = k
    while place != 0:
        # A way that comes to the market has each road at most once: a longer one goes round in a ring.
        if len(way) == len(roads):
            raise NoTree(f"from the crossing {k} one does not come to the market")
        way.append(place)
        place = roads[place - 1][0]
    return way


class Tree:
    def __init__(self, roads):
        look_roads(roads)
        self.lanes = list(roads)
        self.ways = [way_from(roads, k) for k in range(len(roads) + 1)]

    def roads(self):
        return list(self.lanes)

    def many(self):
        return len(self.ways)

    def leads_to(self, k):
        self.look_road(k)
        return self.lanes[k - 1][0]

    def price(self, k):
        self.look_road(k)
        return self.lanes[k - 1][1]

    def way(self, k):
        self.look_crossing(k)
        return list(self.ways[k])

    def beneath(self, k):
        self.look_road(k)
        return [place for place in range(self.many()) if k in self.ways[place]]

    def look_crossing(self, k):
        # The words leave the number out: Python does not write numbers of some thousand figures.
        if not is_whole(k) or k < 0 or k >= self.many():
            raise NoPlace("the tree has no such crossing")

    def look_road(self, k):
        self.look_crossing(k)
        if k == 0:
            raise NoPlace("the market has no road")
