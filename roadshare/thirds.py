"""The third rule: the sharing whose groups' gains, from the least up, are as great as can be."""

from roadshare.costs import bottom_of_prices, whole_cost, whole_prices
from roadshare.errors import TooMany
from roadshare.groups import gains, groups_of
from roadshare.linear import least, solved
from roadshare.ratios import common_bottom, is_less, quotient_of, ratio, rest_of, sum_of, top_over, total_of

MOST_FOR_THIRD = 6


def third(tree, homes):
    look_villages(homes)
    bottom = bottom_of_prices(tree, homes)
    told = {}
    for name, share in whole_third(tree, homes, whole_prices(tree, homes, bottom)).items():
        told[name] = quotient_of(share, ratio(bottom))
    return told


def levels(tree, homes):
    names = sorted(homes)
    known = gains(tree, homes, third(tree, homes))
    told = []
    for level in rising([gain for group, gain in known]):
        groups = [list(group) for group, gain in known if not is_less(level, gain)]
        told.append((level, list(zip(groups, weights_of(names, groups)))))
        if all([is_fixed(names, groups, [name]) for name in names]):
            return told
    return told


def look_villages(homes):
    if len(homes) > MOST_FOR_THIRD:
        raise TooMany(f"the third rule is for at most {MOST_FOR_THIRD} villages")


def whole_third(tree, homes, prices):
    # Step by step the least gain of the groups that are left is made as great as can be. Those that hold it there
    # then pay the same in every sharing that is as good so far: they are fixed, and so are the groups made of them.
    names = sorted(homes)
    fixed = [names]
    sums = [ratio(whole_cost(tree, homes, names, prices))]
    # With one village or none this is all; with more there are groups, and so there is a step.
    shares = dict(zip(names, sums))
    left = groups_of(names)
    while left:
        costs = [ratio(whole_cost(tree, homes, group, prices)) for group in left]
        answer = least_raised(names, left, costs, fixed, sums)
        shares = dict(zip(names, answer[3]))
        for group, weight in zip(left, answer[2]):
            if weight[0] > 0 and not is_fixed(names, fixed, group):
                fixed.append(group)
                sums.append(total_of([shares[name] for name in group]))
        left = [group for group in left if not is_fixed(names, fixed, group)]
    return shares


def least_raised(names, left, costs, fixed, sums):
    # The prices are the shares and, behind them, the least gain: at most its cost is what a group that is left pays
    # and the least gain together, and a fixed group pays just its sum. The worth is the least gain, as great as can be.
    # A column with a weight above 0 has no room between its prices and its cost, whichever best prices are taken.
    rows = []
    for name in names:
        marks = marks_of(name, fixed)
        rows.append(marks_of(name, left) + marks + negatives(marks))
    rows.append([ratio(1)] * len(left) + [ratio(0)] * (2 * len(fixed)))
    return least(rows, [ratio(0)] * len(names) + [ratio(1)], costs + sums + negatives(sums))


def weights_of(names, groups):
    # Each weight is a part from 0 on and one more part, the same for all and as great as can be: so all are above 0
    # where that can be, and at each level of the third rule it can.
    rows = []
    for name in names:
        marks = marks_of(name, groups)
        rows.append(marks + [total_of(marks)])
    answer = least(rows, [ratio(1)] * len(names), [ratio(0)] * len(groups) + [ratio(-1)])
    parts = answer[2]
    return [sum_of(part, parts[-1]) for part in parts[:-1]]


def is_fixed(names, groups, group):
    # Whether what the groups pay fixes what this one pays: it is made of them, each taken some number of times.
    rows = [marks_of(name, groups) for name in names]
    return solved(rows, [mark_of(name, group) for name in names], len(groups)) is not None


def mark_of(name, group):
    return ratio(1) if name in group else ratio(0)


def marks_of(name, groups):
    return [mark_of(name, group) for group in groups]


def negatives(some):
    return [rest_of(ratio(0), one) for one in some]


def rising(some):
    bottom = common_bottom(some)
    return [ratio(top, bottom) for top in sorted(set([top_over(one, bottom) for one in some]))]
