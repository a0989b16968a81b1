"""Sharings judged: a table shows that one is good, or a group shows that it is not."""

from roadshare.costs import cost_of_all, far_roads_first, users
from roadshare.errors import NoSharing
from roadshare.ratios import is_less, ratio, rest_of, total_of


def look_sharing(tree, homes, sharing):
    if set(sharing) != set(homes):
        raise NoSharing("a sharing has a share for each village, and for nobody else")
    if total_of(list(sharing.values())) != cost_of_all(tree, homes):
        raise NoSharing("the shares do not come to the cost of all villages")


def judged(tree, homes, sharing):
    look_sharing(tree, homes, sharing)
    for name in sorted(homes):
        # All the others pay more than all roads cost. There are others: a village alone pays the cost, from 0 on.
        if sharing[name][0] < 0:
            return ("refused", others(homes, [name]))
    left = dict(sharing)
    table = []
    # All users of a road go on by the same roads. So where all roads beyond it are paid already,
    # it is the same for the roads to come which of its users pay it.
    for road in far_roads_first(tree, homes):
        payers = users(tree, homes, road)
        # Its users can't pay the road and those beyond it, which nobody else needs: so the others pay
        # more than all other roads cost. There are others: all villages together do pay all roads.
        if is_less(total_of([left[name] for name in payers]), tree.price(road)):
            return ("refused", others(homes, payers))
        for name, amount in payments(tree.price(road), payers, left):
            left[name] = rest_of(left[name], amount)
            table.append((road, name, amount))
    return ("good", sorted(table))


def others(homes, names):
    return sorted([name for name in homes if name not in names])


def payments(price, payers, left):
    rows = []
    due = price
    for name in payers:
        amount = left[name] if is_less(left[name], due) else due
        if is_less(ratio(0), amount):
            rows.append((name, amount))
            due = rest_of(due, amount)
    return rows
