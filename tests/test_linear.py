"""Linear least, and rows solved for rights (points 13 and 14)."""

import random
import unittest
from fractions import Fraction

from helper import BIG, Case, pair, plain
from roadshare.linear import least, solved


def told_row(some):
    return [pair(Fraction(one)) for one in some]


def told_rows(rows):
    return [told_row(row) for row in rows]


def problem(rows, rights, costs):
    return (told_rows(rows), told_row(rights), told_row(costs))


def times(some, others):
    return sum((plain(one) * plain(other) for one, other in zip(some, others, strict=True)), Fraction(0))


def column(rows, j):
    return [row[j] for row in rows]


def small(rng):
    return Fraction(rng.choice([0, 0, 1, 1, -1, 2, -3, rng.randrange(-9, 10)]))


def broken(rng):
    return Fraction(rng.randrange(-12, 13), rng.randrange(1, 9))


def long(rng):
    return Fraction(rng.randrange(-BIG, BIG), rng.randrange(1, BIG))


def signs(rng):
    return Fraction(rng.choice([-1, 0, 0, 0, 1]))


def drawn_rows(rng, draw, many, columns):
    """Rows, some of which may be 0, come twice or be the sum of two others, and columns that may be 0 or alike."""
    rows = [[draw(rng) for j in range(columns)] for k in range(many)]
    for k in range(2, many):
        kind = rng.randrange(8)
        if kind == 0:
            rows[k] = list(rows[0])
        elif kind == 1:
            rows[k] = [one + other for one, other in zip(rows[0], rows[1])]
        elif kind == 2:
            rows[k] = [Fraction(0)] * columns
    for j in range(1, columns):
        kind = rng.randrange(10)
        if kind < 2:
            for row in rows:
                row[j] = row[0] if kind else Fraction(0)
    rng.shuffle(rows)
    return rows


def drawn_rights(rng, draw, rows, columns):
    kind = rng.randrange(4)
    if kind == 0:
        return [draw(rng) for row in rows]
    if kind == 1:
        return [Fraction(0)] * len(rows)
    amounts = [Fraction(rng.choice([0, 0, 1, 2, 7])) for j in range(columns)]
    return [sum((one * amount for one, amount in zip(row, amounts)), Fraction(0)) for row in rows]


def drawn_costs(rng, draw, rows, columns):
    kind = rng.randrange(4)
    if kind == 0:
        return [draw(rng) for j in range(columns)]
    if kind == 1:
        return [abs(draw(rng)) for j in range(columns)]
    if kind == 2:
        return [Fraction(0)] * columns
    prices = [small(rng) for row in rows]
    return [sum((one * price for one, price in zip(column(rows, j), prices)), abs(draw(rng))) for j in range(columns)]


def drawn_problem(rng, draw, many, columns):
    rows = drawn_rows(rng, draw, many, columns)
    return problem(rows, drawn_rights(rng, draw, rows, columns), drawn_costs(rng, draw, rows, columns))


def rank(rows):
    """How many of the rows are not made of the others."""
    rows = [[plain(one) for one in row] for row in rows]
    found = 0
    for j in range(len(rows[0]) if rows else 0):
        lead = [k for k in range(found, len(rows)) if rows[k][j] != 0]
        if lead:
            rows[found], rows[lead[0]] = rows[lead[0]], rows[found]
            for k in range(found + 1, len(rows)):
                part = rows[k][j] / rows[found][j]
                rows[k] = [one - part * other for one, other in zip(rows[k], rows[found])]
            found += 1
    return found


class LinearCase(Case):
    def hold_fractions(self, told, many):
        self.assertIs(type(told), list)
        self.assertEqual(len(told), many)
        for one in told:
            self.hold_fraction(one, one)

    def hold_from_0_on(self, rows, rights, told, many):
        self.hold_fractions(told, many)
        for one in told:
            self.assertGreaterEqual(one[0], 0)
        for row, right in zip(rows, rights, strict=True):
            self.assertEqual(times(row, told), plain(right))

    def hold_prices(self, rows, tops, prices):
        """For each column the prices times its fractions come to at most its top."""
        self.hold_fractions(prices, len(rows))
        for j, top in enumerate(tops):
            self.assertLessEqual(times(prices, column(rows, j)), plain(top))

    def hold_least(self, rows, rights, costs):
        """All that point 13 asks of the answer; back it comes."""
        told = least(rows, rights, costs)
        many = len(costs)
        self.assertIs(type(told), tuple)
        if told[0] == "least":
            kind, worth, solution, prices = told
            self.hold_fraction(worth, worth)
            self.hold_from_0_on(rows, rights, solution, many)
            self.assertEqual(times(costs, solution), plain(worth))
            self.hold_prices(rows, costs, prices)
            self.assertEqual(times(prices, rights), plain(worth))
        elif told[0] == "none":
            kind, prices = told
            self.hold_prices(rows, [(0, 1)] * many, prices)
            self.assertGreater(times(prices, rights), 0)
        else:
            kind, solution, way = told
            self.assertEqual(kind, "endless")
            self.hold_from_0_on(rows, rights, solution, many)
            self.hold_from_0_on(rows, [(0, 1)] * len(rows), way, many)
            self.assertLess(times(costs, way), 0)
        return told

    def hold_solved(self, rows, rights, many):
        """Each answer times each row comes to its right, and None is told just where there is none; back it comes."""
        told = solved(rows, rights, many)
        if told is None:
            beside = [row + [right] for row, right in zip(rows, rights, strict=True)]
            self.assertGreater(rank(beside), rank(rows))
        else:
            self.hold_fractions(told, many)
            for row, right in zip(rows, rights, strict=True):
                self.assertEqual(times(row, told), plain(right))
        return told


class LeastTest(LinearCase):
    def hold_worth(self, rows, rights, costs, worth, solution=None, prices=None):
        told = self.hold_least(*problem(rows, rights, costs))
        self.assertEqual(told[:2], ("least", pair(Fraction(worth))))
        if solution is not None:
            self.assertEqual(told[2], told_row(solution))
        if prices is not None:
            self.assertEqual(told[3], told_row(prices))

    def hold_kind(self, rows, rights, costs, kind):
        told = self.hold_least(*problem(rows, rights, costs))
        self.assertEqual(told[0], kind)
        return told

    def test_one_row(self):
        self.hold_worth([[1, 1]], [4], [3, 2], 8, [0, 4], [2])
        self.hold_worth([[1, 2]], [4], [3, 2], 4, [0, 2], [1])
        self.hold_worth([[2, 0]], [3], [5, 1], Fraction(15, 2), [Fraction(3, 2), 0], [Fraction(5, 2)])

    def test_two_rows(self):
        half = Fraction(1, 2)
        self.hold_worth([[1, 1, 1, 0], [1, 3, 0, 1]], [4, 6], [-1, -2, 0, 0], -5, [3, 1, 0, 0], [-half, -half])
        self.hold_worth([[1, half], [half, -1]], [1, 0], [3, 5], Fraction(22, 5), [Fraction(4, 5), Fraction(2, 5)])

    def test_one_column(self):
        self.hold_worth([[2]], [3], [5], Fraction(15, 2), [Fraction(3, 2)], [Fraction(5, 2)])
        self.hold_worth([[2]], [3], [-5], Fraction(-15, 2), [Fraction(3, 2)], [Fraction(-5, 2)])
        self.hold_worth([[-2]], [-3], [5], Fraction(15, 2), [Fraction(3, 2)], [Fraction(-5, 2)])
        self.hold_worth([[2]], [0], [-5], 0, [0])
        self.hold_worth([[2], [4]], [3, 6], [1], Fraction(3, 2), [Fraction(3, 2)])
        self.hold_kind([[2]], [-3], [5], "none")
        self.hold_kind([[-2]], [3], [0], "none")
        self.hold_kind([[0]], [3], [0], "none")
        self.hold_kind([[0]], [-3], [-1], "none")
        self.hold_kind([[2], [4]], [3, 7], [1], "none")
        self.hold_kind([[0]], [0], [-1], "endless")
        self.hold_worth([[0]], [0], [0], 0)
        self.hold_worth([[0]], [0], [1], 0, [0])

    def test_no_rows(self):
        self.assertEqual(least([], [], told_row([0, 3, 1])), ("least", (0, 1), told_row([0, 0, 0]), []))
        self.assertEqual(least([], [], [(0, 1)])[:2], ("least", (0, 1)))
        for costs in ([-1], [3, -1], [-1, 3, -2], [0, 0, Fraction(-1, BIG)]):
            told = self.hold_kind([], [], costs, "endless")
            self.assertEqual(len(told[2]), len(costs))

    def test_columns_and_rows_that_are_all_0(self):
        self.hold_worth([[0, 1], [0, 0]], [2, 0], [3, 5], 10, [0, 2])
        self.hold_kind([[0, 1], [0, 0]], [2, 1], [3, 5], "none")
        self.hold_kind([[0, 1], [0, 0]], [2, -1], [-3, 5], "none")
        self.hold_kind([[0, 1], [0, 0]], [2, 0], [-3, 5], "endless")
        self.hold_worth([[0, 0]], [0], [3, 5], 0, [0, 0])
        self.hold_worth([[0, 0], [0, 0], [0, 0]], [0, 0, 0], [0, 0], 0)

    def test_rows_that_come_twice_or_are_the_sum_of_two_others(self):
        rows = [[1, 1, 0], [1, 1, 0], [0, 1, 1], [1, 2, 1]]
        self.hold_worth(rows, [3, 3, 4, 7], [1, 1, 1], 4, [0, 3, 1])
        self.hold_worth(rows, [3, 3, 4, 7], [1, 5, 1], 7, [3, 0, 4])
        self.hold_kind(rows, [3, 2, 4, 7], [1, 1, 1], "none")
        self.hold_kind(rows, [3, 3, 4, 8], [1, 1, 1], "none")
        self.hold_worth([[1, -1], [-1, 1]], [0, 0], [1, 1], 0, [0, 0])
        self.hold_kind([[1, -1], [-1, 1]], [0, 0], [1, -2], "endless")
        self.hold_kind([[1, -1], [2, -2]], [1, 2], [1, -2], "endless")

    def test_rights_below_0(self):
        self.hold_worth([[-1, 1], [1, 1]], [-2, 4], [1, 1], 4, [3, 1])
        self.hold_worth([[-1, -1]], [-4], [3, 2], 8, [0, 4], [-2])
        self.hold_kind([[1, 1], [0, 1]], [-2, -1], [0, 0], "none")

    def test_endless(self):
        told = self.hold_kind([[1, -1]], [1], [0, -1], "endless")
        self.assertEqual(plain(told[2][0]), plain(told[2][1]))
        self.hold_kind([[1, -1, 0]], [0], [-1, 0, 0], "endless")
        self.hold_kind([[1, -2, 1], [1, 1, -2]], [3, 0], [-1, -1, -1], "endless")

    def test_hardly_endless_and_hardly_none(self):
        tiny = Fraction(1, BIG)
        self.hold_worth([[1, -1]], [1], [1, -1], 1)
        self.hold_kind([[1, -1]], [1], [1, -1 - tiny], "endless")
        self.hold_worth([[1, -1]], [1], [1, -1 + tiny], 1, [1, 0])
        self.hold_worth([[1, 1], [1, 1 + tiny]], [1, 1], [0, 1], 0, [1, 0])
        self.hold_worth([[1, 1], [1, 1 + tiny]], [1, 1 + tiny], [0, 1], 1, [0, 1])
        self.hold_kind([[1, 1], [1, 1 + tiny]], [1, 1 + 2 * tiny], [0, 1], "none")
        self.hold_kind([[1, 1], [1, 1 + tiny]], [1, 1 - tiny], [0, 1], "none")

    def test_steps_at_which_several_ways_are_alike_good(self):
        # Well known for walks that come round again where the next step is chosen otherwise.
        quarter = Fraction(1, 4)
        half = Fraction(1, 2)
        rows = [
            [quarter, -60, Fraction(-1, 25), 9, 1, 0, 0],
            [half, -90, Fraction(-1, 50), 3, 0, 1, 0],
            [0, 0, 1, 0, 0, 0, 1],
        ]
        costs = [Fraction(-3, 4), 150, Fraction(-1, 50), 6, 0, 0, 0]
        self.hold_worth(rows, [0, 0, 1], costs, Fraction(-1, 20))
        rows = [[1, 0, 0, quarter, -8, -1, 9], [0, 1, 0, half, -12, -half, 3], [0, 0, 1, 0, 0, 1, 0]]
        self.hold_worth(rows, [0, 0, 1], [0, 0, 0, Fraction(-3, 4), 20, -half, 6], Fraction(-5, 4))
        rows = [[1, 0, half, Fraction(-11, 2), Fraction(-5, 2), 9], [0, 1, half, Fraction(-3, 2), -half, 1]]
        self.hold_kind(rows, [0, 0], [0, 0, -10, 57, 9, 24], "endless")
        rows = [[1, 0, 0] + rows[0][2:], [0, 1, 0] + rows[1][2:], [0, 0, 1, 1, 0, 0, 0]]
        self.hold_worth(rows, [0, 0, 1], [0, 0, 0, -10, 57, 9, 24], -1)

    def test_steps_that_come_round_again_where_another_one_is_taken(self):
        # Each is one on which some other rule for the next step (the last column that helps, the one that helps most,
        # the first, the last or the greatest of the rows that are alike) goes round without end.
        for rows, rights, costs in [
            ([[-2, 2, 0, 1, 2, -1, 2], [-1, -2, 2, -2, -1, 0, 2]], [0, 0], [-1, -2, -2, 1, 2, 2, 2]),
            (
                [[1, 0, 0, 1, -3, 5, -2], [0, 1, 0, -3, 0, 1, 2], [0, 0, 1, -4, -2, 3, 4]],
                [0, 0, 0], [5, 4, 5, 0, -4, -2, -2],
            ),
            (
                [[1, 0, 0, -4, 1, 0, 5, 5], [0, 1, 0, -5, 4, -2, -2, -2], [0, 0, 1, -3, 1, -2, 0, -1]],
                [0, 0, 0], [1, 1, 4, 0, -5, -2, -2, 4],
            ),
            (
                [[1, 0, 0, -1, 3, -3, -5, 5], [0, 1, 0, 4, -1, 1, 2, 4], [0, 0, 1, 5, 2, 3, 5, 0], [1] * 8],
                [0, 0, 0, 1], [5, -1, 5, -3, -5, -5, -3, 0],
            ),
        ]:
            with self.subTest(rows=rows):
                self.hold_least(*problem(rows, rights, costs))

    def test_rights_that_are_all_0(self):
        rng = random.Random(41)
        seen = {"least": 0, "endless": 0}
        for turn in range(150):
            rows, rights, costs = drawn_problem(rng, signs, rng.choice([2, 4, 6]), rng.choice([3, 6, 12]))
            with self.subTest(rows=rows, costs=costs):
                seen[self.hold_least(rows, [(0, 1)] * len(rows), costs)[0]] += 1
        self.assertGreater(min(seen.values()), 10)

    def test_drawn(self):
        for draw, turns in ((small, 300), (signs, 300), (broken, 150), (long, 60)):
            rng = random.Random(42)
            seen = {"least": 0, "none": 0, "endless": 0}
            for turn in range(turns):
                handed = drawn_problem(rng, draw, rng.choice([0, 1, 2, 3, 4, 6]), rng.choice([1, 2, 3, 5, 8, 12]))
                with self.subTest(draw=draw, handed=handed):
                    seen[self.hold_least(*handed)[0]] += 1
            self.assertGreater(min(seen.values()), turns // 30)

    def test_fractions_of_many_figures(self):
        rows = [[Fraction(BIG, 7), Fraction(1, BIG)], [Fraction(-BIG, BIG - 1), Fraction(BIG - 2, BIG)]]
        rights = [Fraction(10 ** 60 - 1, 10 ** 59 + 1), Fraction(-1, 10 ** 60 - 3)]
        for costs in ([Fraction(-1, BIG), Fraction(BIG)], [Fraction(BIG), Fraction(-1, BIG)]):
            self.assertIn(self.hold_least(*problem(rows, rights, costs))[0], ("least", "none"))
        amounts = [Fraction(BIG, BIG - 1), Fraction(1, BIG)]
        rights = [sum(one * amount for one, amount in zip(row, amounts)) for row in rows]
        worth = amounts[0] * BIG - amounts[1]
        self.hold_worth(rows, rights, [BIG, -1], worth, amounts)

    def test_twelve_rows_and_eighty_columns_in_good_time(self):
        rng = random.Random(43)
        with self.hold_good_time(60):
            seen = {"least": 0, "none": 0, "endless": 0}
            for draw in (small, signs, broken, lambda rng: Fraction(rng.randrange(-BIG, BIG))):
                for turn in range(8):
                    handed = drawn_problem(rng, draw, 12, 80)
                    with self.subTest(draw=draw, turn=turn):
                        seen[self.hold_least(*handed)[0]] += 1
            for turn in range(3):
                self.hold_least(*drawn_problem(rng, long, 4, 80))
            self.assertGreater(min(seen.values()), 2)

    def test_eighty_columns_that_are_alike_or_groups(self):
        ones = [[(k >> j) & 1 for k in range(1, 64)] + [0] * 6 for j in range(6)]
        with self.hold_good_time():
            for rights in ([1] * 6, [0] * 6, [1, 2, 3, 4, 5, 6], [0, 1, 0, 1, 0, 1]):
                for costs in ([1] * 69, [-1] * 63 + [0] * 6, [k % 7 - 3 for k in range(69)]):
                    self.assertIn(self.hold_least(*problem(ones, rights, costs))[0], ("least", "endless"))
            alike = [[k] * 80 for k in range(12)]
            self.assertEqual(self.hold_least(*problem(alike, range(12), range(80)))[:2], ("least", (0, 1)))
            self.assertEqual(self.hold_least(*problem(alike, [1] * 12, [1] * 80))[0], "none")

    def test_the_arguments_have_their_names(self):
        told = least(rows=[[(1, 1), (1, 1)]], rights=[(4, 1)], costs=[(3, 1), (2, 1)])
        self.assertEqual(told, ("least", (8, 1), [(0, 1), (4, 1)], [(2, 1)]))

    def test_what_is_told_is_new_and_what_is_handed_in_stays(self):
        for handed in [
            problem([[1, 1, 1, 0], [1, 3, 0, 1]], [4, 6], [-1, -2, 0, 0]),
            problem([[1, 0], [0, 1]], [1, 1], [1, 1]),
            problem([[1, 1], [1, 1]], [-1, 1], [1, 1]),
            problem([[1, -1]], [0], [0, -1]),
            problem([], [], [1]),
            problem([], [], [-1]),
        ]:
            with self.subTest(handed=handed):
                self.hold_own(least, *handed)


class SolvedTest(LinearCase):
    def hold(self, rows, rights, many, wanted):
        told = self.hold_solved(told_rows(rows), told_row(rights), many)
        self.assertEqual(told, None if wanted is None else told_row(wanted))

    def test_just_one_answer(self):
        self.hold([[2]], [3], 1, [Fraction(3, 2)])
        self.hold([[2]], [-3], 1, [Fraction(-3, 2)])
        self.hold([[1, 1], [1, -1]], [1, 5], 2, [3, -2])
        self.hold([[0, 2], [3, 0]], [1, 1], 2, [Fraction(1, 3), Fraction(1, 2)])
        self.hold([[0, 1, 1], [1, 0, 1], [1, 1, 0]], [1, 2, 3], 3, [2, 1, 0])
        self.hold([[1, 1], [1, -1], [3, 1]], [1, 5, 7], 2, [3, -2])
        self.hold([[1], [2], [0]], [0, 0, 0], 1, [0])

    def test_many_answers(self):
        for rows, rights, many in [
            ([[1, 1]], [1], 2), ([[0, 0, -2]], [3], 3), ([[1, 2, 3], [2, 4, 6]], [1, 2], 3), ([[0, 0]], [0], 2),
            ([[1, 2, 3], [3, 2, 1], [4, 4, 4]], [Fraction(1, 2), Fraction(-7, 3), Fraction(-11, 6)], 3),
        ]:
            with self.subTest(rows=rows):
                self.assertIsNotNone(self.hold_solved(told_rows(rows), told_row(rights), many))

    def test_no_answer(self):
        self.hold([[0]], [1], 1, None)
        self.hold([[0, 0]], [Fraction(-1, BIG)], 2, None)
        self.hold([[1, 1], [1, 1]], [1, 2], 2, None)
        self.hold([[1, 1], [-2, -2]], [0, 1], 2, None)
        self.hold([[1, 0], [0, 1], [1, 1]], [1, 1, 3], 2, None)
        self.hold([[1], [1]], [1, 1 + Fraction(1, BIG)], 1, None)
        self.hold([[1, 2], [1, 2], [1, 2]], [3, 3, 4], 2, None)

    def test_no_rows(self):
        for many in (1, 2, 80):
            told = solved([], [], many)
            self.hold_fractions(told, many)

    def test_rows_that_come_twice(self):
        self.hold([[1, 1], [1, 1], [1, -1]], [1, 1, 5], 2, [3, -2])
        self.hold([[1, 1], [1, 1], [1, -1]], [1, 2, 5], 2, None)

    def test_drawn(self):
        for draw, turns in ((small, 200), (signs, 200), (broken, 100), (long, 30)):
            rng = random.Random(44)
            seen = {True: 0, False: 0}
            for turn in range(turns):
                columns = rng.choice([1, 2, 3, 5, 8])
                rows = drawn_rows(rng, draw, rng.choice([0, 1, 2, 3, 4, 6]), columns)
                rights = drawn_rights(rng, draw, rows, columns)
                with self.subTest(rows=rows, rights=rights):
                    seen[self.hold_solved(told_rows(rows), told_row(rights), columns) is None] += 1
            self.assertGreater(min(seen.values()), turns // 20)

    def test_one_answer_comes_back(self):
        rng = random.Random(45)
        for turn in range(60):
            draw = rng.choice([small, broken, long])
            many = rng.choice([1, 2, 3, 5])
            rows = [[draw(rng) for j in range(many)] for k in range(many)]
            answer = [draw(rng) for j in range(many)]
            rights = [sum(one * other for one, other in zip(row, answer)) for row in rows]
            if rank(told_rows(rows)) == many:
                with self.subTest(rows=rows, answer=answer):
                    self.hold(rows, rights, many, answer)

    def test_twelve_rows_and_eighty_columns_in_good_time(self):
        rng = random.Random(46)
        with self.hold_good_time():
            for draw in (small, broken, long):
                rows = [[draw(rng) for j in range(80)] for k in range(12)]
                self.assertIsNotNone(self.hold_solved(told_rows(rows), told_row(draw(rng) for row in rows), 80))

    def test_more_rows_than_columns(self):
        groups = [[(k >> j) & 1 for j in range(6)] for k in range(1, 63)]
        answer = [Fraction(1), Fraction(-2, 3), Fraction(0), Fraction(5, 7), Fraction(1, BIG), Fraction(9)]
        rights = [sum(one * other for one, other in zip(row, answer)) for row in groups]
        self.hold(groups, rights, 6, answer)
        rights[40] += 1
        self.hold(groups, rights, 6, None)

    def test_the_arguments_have_their_names(self):
        self.assertEqual(solved(rows=[[(2, 1)]], rights=[(3, 1)], many=1), [(3, 2)])

    def test_what_is_told_is_new_and_what_is_handed_in_stays(self):
        for rows, rights, many in [
            ([[1, 1], [1, -1]], [1, 5], 2), ([[1, 0], [0, 1]], [1, 5], 2), ([[1], [1]], [1, 5], 1), ([], [], 2),
        ]:
            with self.subTest(rows=rows):
                self.hold_own(solved, told_rows(rows), told_row(rights), many)


if __name__ == "__main__":
    unittest.main()
