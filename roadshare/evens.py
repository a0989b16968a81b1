"""The even rule: each road is paid evenly by all who use it."""

from roadshare.costs import needed, users
from roadshare.ratios import quotient_of, ratio, sum_of


def even_table(tree, homes):
    table = []
    for road in needed(tree, homes, list(homes)):
        price = tree.price(road)
        if price[0] > 0:
            payers = users(tree, homes, road)
            amount = quotient_of(price, ratio(len(payers)))
            table.extend([(road, name, amount) for name in payers])
    return table


def even_shares(tree, homes):
    shares = {}
    for name in homes:
        shares[name] = ratio(0)
    for road, name, amount in even_table(tree, homes):
        shares[name] = sum_of(shares[name], amount)
    return shares
