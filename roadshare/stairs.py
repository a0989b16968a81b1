"""The evenest sharing, stair by stair: ahead of the others go the villages that pay least by head."""

from roadshare.costs import bottom_of_prices, far_roads_first, needed, whole_cost, whole_prices
from roadshare.ratios import ratio


def stairs(tree, homes):
    bottom = bottom_of_prices(tree, homes)
    prices = whole_prices(tree, homes, bottom)
    group = []
    told = []
    while len(group) < len(homes):
        joining = cheapest(tree, homes_without(homes, group), prices)
        share = ratio(whole_cost(tree, homes, joining, prices), bottom * len(joining))
        group = sorted(group + joining)
        told.append((group, share))
        for k in needed(tree, homes, joining):
            prices[k] = 0
    return told


def evenest(tree, homes):
    shares = {}
    for group, share in stairs(tree, homes):
        for name in group:
            shares.setdefault(name, share)
    return shares


def homes_without(homes, group):
    left = {}
    for name in homes:
        if name not in group:
            left[name] = homes[name]
    return left


def cheapest(tree, homes, prices):
    # Each village brings what the group so far costs by head, and those who can't pay their roads with it drop out.
    # The wanted group costs no more by head, so none of it ever does. Where nobody more does, no group at all has
    # anything left over: so none costs less by head, and what stays is the greatest of those that cost as little.
    group = []
    staying = list(homes)
    while staying != group:
        group = staying
        staying = who_can_pay(tree, homes, prices, whole_cost(tree, homes, group, prices), len(group))
    return group


def who_can_pay(tree, homes, prices, brought, heads):
    # Each village brings as much as brought over heads. Prices count heads times instead, so that all stays whole.
    left = [0] * tree.many()
    for name in homes:
        left[homes[name]] += brought
    for k in far_roads_first(tree, homes):
        left[k] -= heads * prices[k]
        if left[k] > 0:
            left[tree.leads_to(k)] += left[k]
    return [name for name in homes if is_paid(tree.way(homes[name]), left)]


def is_paid(way, left):
    return all([left[k] >= 0 for k in way])
