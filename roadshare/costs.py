"""Which roads groups of villages need, what these cost, and who uses a road."""

from roadshare.ratios import total_of


def needed(tree, homes, group):
    roads = []
    for name in group:
        roads.extend(tree.way(homes[name]))
    return sorted(set(roads))


def far_roads_first(tree, homes):
    return sorted(needed(tree, homes, list(homes)), key=lambda road: len(tree.way(road)), reverse=True)


def cost(tree, homes, group):
    return total_of([tree.price(k) for k in needed(tree, homes, group)])


def cost_of_all(tree, homes):
    return cost(tree, homes, list(homes))


def users(tree, homes, k):
    places = tree.beneath(k)
    return sorted([name for name in homes if homes[name] in places])
