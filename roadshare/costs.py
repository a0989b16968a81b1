"""Which roads groups of villages need, what these cost, and who uses a road."""

from roadshare.ratios import common_bottom, top_over, total_of


def needed(tree, homes, group):
    roads = []
    for name in group:
        roads.extend(tree.way(homes[name]))
    return sorted(set(roads))


def far_roads_first(tree, homes):
    return sorted(needed(tree, homes, list(homes)), key=lambda road: len(tree.way(road)), reverse=True)


def cost(tree, homes, group):
    return total_of([tree.price(k) for k in needed(tree, homes, group)])


def cost_of_all(tree, homes):
    return cost(tree, homes, list(homes))


def users(tree, homes, k):
    places = tree.beneath(k)
    return sorted([name for name in homes if homes[name] in places])


# What is reckoned with many costs is reckoned in whole numbers, over one bottom for all prices:
# lowest terms of many figures are slow to find, and only what is told needs them.
def bottom_of_prices(tree, homes):
    return common_bottom([tree.price(k) for k in needed(tree, homes, list(homes))])


def whole_prices(tree, homes, bottom):
    prices = {}
    for k in needed(tree, homes, list(homes)):
        prices[k] = top_over(tree.price(k), bottom)
    return prices


def whole_cost(tree, homes, group, prices):
    return sum([prices[k] for k in needed(tree, homes, group)])
