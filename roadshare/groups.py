"""The groups of some villages, and what each gains in a sharing: its cost less what it pays."""

from roadshare.costs import cost
from roadshare.ratios import rest_of, total_of


def groups_of(names):
    groups = [[]]
    for name in sorted(names):
        groups = groups + [group + [name] for group in groups]
    some = [group for group in groups if 0 < len(group) < len(names)]
    return sorted(some, key=lambda group: (len(group), group))


def gains(tree, homes, sharing):
    return [(group, gain(tree, homes, sharing, group)) for group in groups_of(list(homes))]


def gain(tree, homes, sharing, group):
    return rest_of(cost(tree, homes, group), total_of([sharing[name] for name in group]))
