"""Linear least: a solution from 0 on whose costs are least, and rows solved for rights, both exact."""

from roadshare.ratios import common_bottom, ratio, top_over


def least(rows, rights, costs):
    choice = Choice(rows, rights, [common_bottom(column_of(rows, j) + [costs[j]]) for j in range(len(costs))])
    # There is a solution just where the rights come of the columns alone: so at first the made-up ones alone cost.
    made_up = [0] * len(costs) + [1] * len(rights)
    go_down(choice, made_up)
    if choice.worth(made_up)[0] > 0:
        return ("none", choice.prices(made_up))
    drop_made_up(choice)
    own = [top_over(cost, scale) for cost, scale in zip(costs, choice.scales)] + [0] * len(rights)
    j = go_down(choice, own)
    if j is not None:
        return ("endless", choice.solution(), choice.way_along(j))
    return ("least", choice.worth(own), choice.solution(), choice.prices(own))


def solved(rows, rights, many):
    choice = Choice(rows, rights, [common_bottom(column_of(rows, j)) for j in range(many)])
    drop_made_up(choice)
    for k, level in enumerate(choice.levels()):
        if choice.is_made_up(k) and level != 0:
            return None
    return choice.solution()


def go_down(choice, costs):
    # Tells None where the costs are least, or a column along which they have no end.
    j = cheaper_column(choice, costs)
    while j is not None:
        k = row_used_up(choice, j)
        if k is None:
            return j
        choice.choose(j, k)
        j = cheaper_column(choice, costs)
    return None


def cheaper_column(choice, costs):
    # The first one, and not the cheapest: so, with the first one in row_used_up, no choice ever comes again.
    marks = choice.marks(costs)
    for j, column in enumerate(choice.columns):
        if costs[j] * choice.under < times(marks, column):
            return j
    return None


def row_used_up(choice, j):
    parts = choice.parts(choice.columns[j])
    levels = choice.levels()
    found = None
    for k in range(len(parts)):
        if parts[k] > 0:
            if found is None:
                found = k
            one = levels[k] * parts[found]
            other = levels[found] * parts[k]
            if one < other or (one == other and choice.chosen[k] < choice.chosen[found]):
                found = k
    return found


def drop_made_up(choice):
    # A row whose made-up column stays is made of other rows: no column has any part there, now and later.
    for k in range(len(choice.chosen)):
        if choice.is_made_up(k):
            j = column_with_part(choice, k)
            if j is not None:
                choice.choose(j, k)


def column_with_part(choice, k):
    for j, column in enumerate(choice.columns):
        if times(choice.lines[k], column) != 0:
            return j
    return None


def column_of(rows, j):
    return [row[j] for row in rows]


def tops_over(some, bottom):
    return [top_over(one, bottom) for one in some]


def times(ones, others):
    return sum([one * other for one, other in zip(ones, others)])


class Choice:
    # For each row one column is chosen, so that every column, and the rights, are made of the chosen ones in just
    # one way. At first these are made-up columns, numbered behind the others: 1 or -1 in their own row alone.
    # Columns and rights are taken so many times (scales, bottom) that they are whole. The lines times a column tell
    # its parts: how often each chosen column is in it, times under; those of the rights are the levels. All of this
    # stays whole whatever is chosen, so that lowest terms, slow to find for many figures, wait until something is told.
    def __init__(self, rows, rights, scales):
        self.scales = scales
        self.columns = [tops_over(column_of(rows, j), scale) for j, scale in enumerate(scales)]
        self.bottom = common_bottom(rights)
        self.rights = tops_over(rights, self.bottom)
        self.chosen = [len(scales) + k for k in range(len(rights))]
        self.lines = [self.first_line(k) for k in range(len(rights))]
        self.under = 1

    def first_line(self, k):
        line = [0] * len(self.rights)
        # So every level is from 0 on.
        line[k] = -1 if self.rights[k] < 0 else 1
        return line

    def is_made_up(self, k):
        return self.chosen[k] >= len(self.columns)

    def parts(self, column):
        return [times(line, column) for line in self.lines]

    def levels(self):
        return self.parts(self.rights)

    def choose(self, j, k):
        parts = self.parts(self.columns[j])
        sign = 1 if parts[k] > 0 else -1
        own = [sign * one for one in self.lines[k]]
        lines = []
        for line, part in zip(self.lines, parts):
            # There is no rest: under is, but for its sign, the determinant of the chosen columns.
            lines.append([(abs(parts[k]) * one - part * other) // self.under for one, other in zip(line, own)])
        lines[k] = own
        self.lines = lines
        self.under = abs(parts[k])
        self.chosen[k] = j

    def marks(self, costs):
        # Prices, times under.
        own = [costs[j] for j in self.chosen]
        return [times(own, column_of(self.lines, k)) for k in range(len(self.lines))]

    def prices(self, costs):
        return [ratio(mark, self.under) for mark in self.marks(costs)]

    def worth(self, costs):
        return ratio(times(self.marks(costs), self.rights), self.under * self.bottom)

    def solution(self):
        return self.spread(self.levels(), self.under * self.bottom)

    def way_along(self, j):
        way = self.spread([-part for part in self.parts(self.columns[j])], self.under)
        way[j] = ratio(self.scales[j])
        return way

    def spread(self, amounts, bottom):
        told = [ratio(0)] * len(self.columns)
        for k, amount in enumerate(amounts):
            if not self.is_made_up(k):
                j = self.chosen[k]
                told[j] = ratio(amount * self.scales[j], bottom)
        return told
