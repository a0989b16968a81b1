"""Fractions (point 4), held against Python's own."""

import unittest
from fractions import Fraction

from helper import BIG, Case, pair
from roadshare.errors import NoFraction
from roadshare.ratios import (
    common_bottom, is_less, is_ratio, product_of, quotient_of, ratio, rest_of, sum_of, top_over, total_of,
)

OTHER_BIG = 987654321098765432109876543210
THIRD_BIG = 10 ** 29 + 319
NUMBERS = [
    0, 1, -1, 2, -2, 3, 4, -6, 9, 12, -35, 360, 1001,
    BIG, -BIG, OTHER_BIG, -OTHER_BIG, THIRD_BIG, -THIRD_BIG, 10 ** 29, -(2 ** 99), 3 ** 62,
]


def some_fractions():
    made = [Fraction(top, bottom) for top in NUMBERS for bottom in NUMBERS if bottom != 0]
    return sorted(set(made))[::4] + [Fraction(0), Fraction(1), Fraction(-1), Fraction(1, BIG), Fraction(-BIG, THIRD_BIG)]


class RatioTest(Case):
    def test_written_out(self):
        for handed, wanted in [
            ((1, 2), (1, 2)), ((2, 4), (1, 2)), ((-2, 4), (-1, 2)), ((2, -4), (-1, 2)), ((-2, -4), (1, 2)),
            ((6, 3), (2, 1)), ((3, 6), (1, 2)), ((3, 9), (1, 3)), ((7, 7), (1, 1)), ((7, -7), (-1, 1)), ((5, 1), (5, 1)), ((5, -1), (-5, 1)),
        ]:
            with self.subTest(handed=handed):
                self.hold_fraction(ratio(*handed), wanted)

    def test_tops_and_bottoms_of_either_sign_and_up_to_30_figures(self):
        for top in NUMBERS:
            for bottom in NUMBERS:
                if bottom != 0:
                    with self.subTest(top=top, bottom=bottom):
                        self.hold_fraction(ratio(top, bottom), pair(Fraction(top, bottom)))

    def test_0_over_anything_is_0_over_1(self):
        for bottom in NUMBERS:
            if bottom != 0:
                with self.subTest(bottom=bottom):
                    self.hold_fraction(ratio(0, bottom), (0, 1))

    def test_the_bottom_left_out_is_1(self):
        for top in NUMBERS:
            with self.subTest(top=top):
                self.hold_fraction(ratio(top), (top, 1))

    def test_the_arguments_have_their_names(self):
        self.hold_fraction(ratio(top=6, bottom=4), (3, 2))
        self.hold_fraction(ratio(top=6), (6, 1))

    def test_the_bottom_0_is_refused(self):
        for top in NUMBERS + [10 ** 5000]:
            with self.subTest(bits=top.bit_length()):
                self.hold_refused(NoFraction, ratio, top, 0)

    def test_what_is_no_two_whole_numbers_is_refused(self):
        for handed in [
            (True, 2), (1, True), (1, False), (False,), (None,), (1, None), ("1",), (1, "2"), ([], 1), ((1, 2), 3), (0.5,),
        ]:
            with self.subTest(handed=handed):
                self.hold_refused(NoFraction, ratio, *handed)


class ReckoningTest(Case):
    def test_written_out(self):
        self.hold_fraction(sum_of((1, 2), (1, 3)), (5, 6))
        self.hold_fraction(sum_of((1, 6), (1, 3)), (1, 2))
        self.hold_fraction(rest_of((1, 2), (1, 3)), (1, 6))
        self.hold_fraction(rest_of((1, 3), (1, 2)), (-1, 6))
        self.hold_fraction(product_of((2, 3), (3, 4)), (1, 2))
        self.hold_fraction(product_of((-2, 3), (-3, 2)), (1, 1))
        self.hold_fraction(quotient_of((1, 2), (3, 4)), (2, 3))
        self.hold_fraction(quotient_of((1, 2), (-3, 4)), (-2, 3))
        self.hold_fraction(quotient_of((0, 1), (-3, 4)), (0, 1))

    def test_of_every_two(self):
        some = some_fractions()
        for one in some:
            for other in some:
                handed = (pair(one), pair(other))
                with self.subTest(handed=handed):
                    self.hold_fraction(sum_of(*handed), pair(one + other))
                    self.hold_fraction(rest_of(*handed), pair(one - other))
                    self.hold_fraction(product_of(*handed), pair(one * other))
                    if other != 0:
                        self.hold_fraction(quotient_of(*handed), pair(one / other))

    def test_of_one_and_itself_and_of_one_and_its_contrary(self):
        for fraction in some_fractions():
            one = pair(fraction)
            contrary = pair(-fraction)
            with self.subTest(one=one):
                self.hold_fraction(sum_of(one, one), pair(2 * fraction))
                self.hold_fraction(sum_of(one, contrary), (0, 1))
                self.hold_fraction(rest_of(one, one), (0, 1))
                self.hold_fraction(product_of(one, contrary), pair(-(fraction ** 2)))
                if fraction != 0:
                    self.hold_fraction(quotient_of(one, one), (1, 1))
                    self.hold_fraction(quotient_of(one, contrary), (-1, 1))

    def test_0_is_added_taken_away_and_multiplied(self):
        for fraction in some_fractions():
            one = pair(fraction)
            with self.subTest(one=one):
                self.hold_fraction(sum_of(one, (0, 1)), one)
                self.hold_fraction(sum_of((0, 1), one), one)
                self.hold_fraction(rest_of(one, (0, 1)), one)
                self.hold_fraction(rest_of((0, 1), one), pair(-fraction))
                self.hold_fraction(product_of(one, (0, 1)), (0, 1))
                self.hold_fraction(product_of((0, 1), one), (0, 1))

    def test_a_quotient_by_0_is_refused(self):
        for fraction in some_fractions():
            with self.subTest(fraction=fraction):
                self.hold_refused(NoFraction, quotient_of, pair(fraction), (0, 1))

    def test_the_arguments_have_their_names(self):
        self.hold_fraction(sum_of(one=(1, 2), other=(1, 4)), (3, 4))
        self.hold_fraction(rest_of(other=(1, 4), one=(1, 2)), (1, 4))
        self.hold_fraction(product_of(one=(1, 2), other=(1, 4)), (1, 8))
        self.hold_fraction(quotient_of(other=(1, 4), one=(1, 2)), (2, 1))
        self.assertIs(is_less(other=(1, 4), one=(1, 2)), False)
        self.hold_fraction(total_of(some=[(1, 2), (1, 4)]), (3, 4))


class IsLessTest(Case):
    def test_written_out(self):
        for one, other, wanted in [
            ((1, 3), (1, 2), True), ((1, 2), (1, 3), False), ((1, 2), (1, 2), False), ((0, 1), (0, 1), False),
            ((-1, 2), (-1, 3), True), ((-1, 3), (-1, 2), False), ((-1, 2), (-1, 2), False),
            ((-1, 2), (1, 2), True), ((1, 2), (-1, 2), False), ((-1, 2), (0, 1), True), ((0, 1), (-1, 2), False),
            ((1, BIG), (1, BIG - 1), True), ((BIG - 1, BIG), (1, 1), True), ((1, 1), (BIG - 1, BIG), False),
        ]:
            with self.subTest(one=one, other=other):
                self.assertIs(is_less(one, other), wanted)

    def test_of_every_two(self):
        some = some_fractions()
        for one in some:
            for other in some:
                with self.subTest(one=one, other=other):
                    self.assertIs(is_less(pair(one), pair(other)), one < other)


class TotalOfTest(Case):
    def test_of_none_of_one_and_of_several(self):
        for some, wanted in [
            ([], (0, 1)), ([(0, 1)], (0, 1)), ([(-3, 7)], (-3, 7)), ([(1, 3), (1, 3)], (2, 3)),
            ([(1, 2), (1, 3), (1, 6)], (1, 1)), ([(1, 2), (-1, 2)], (0, 1)), ([(1, 2), (1, 2), (1, 2), (1, 2)], (2, 1)),
        ]:
            with self.subTest(some=some):
                self.hold_fraction(total_of(some), wanted)

    def test_of_many(self):
        some = some_fractions()
        self.hold_fraction(total_of([pair(one) for one in some]), pair(sum(some)))

    def test_the_list_stays_as_it_was_and_tells_the_same_again(self):
        some = [(1, 2), (BIG, THIRD_BIG), (-2, 3), (1, 2)]
        kept = list(some)
        told = total_of(some)
        self.assertEqual(some, kept)
        self.hold_fraction(total_of(some), told)
        some.append((5, 1))
        self.hold_fraction(total_of(some), sum_of(told, (5, 1)))


class OneBottomTest(Case):
    def test_the_least_bottom_that_all_can_be_written_over(self):
        for some, wanted in [([], 1), ([(3, 1)], 1), ([(1, 4), (-1, 6), (0, 1)], 12), ([(1, 2), (1, BIG)], 2 * BIG)]:
            with self.subTest(some=some):
                self.assertEqual(common_bottom(some), wanted)
                tops = [top_over(one, wanted) for one in some]
                self.assertEqual([ratio(top, wanted) for top in tops], some)


class IsRatioTest(Case):
    def test_fractions_are_ones(self):
        huge = 10 ** 5000
        for thing in [
            (0, 1), (1, 1), (-1, 1), (1, 2), (-1, 2), (7, 3), (BIG, 1), (1, BIG), (-BIG, THIRD_BIG),
            (huge, 1), (-huge, 1), (1, huge), (huge + 1, huge), (huge, 3),
        ]:
            with self.subTest(bits=[number.bit_length() for number in thing]):
                self.assertIs(is_ratio(thing), True)

    def test_all_that_is_made_is_one(self):
        for fraction in some_fractions():
            with self.subTest(fraction=fraction):
                self.assertIs(is_ratio(pair(fraction)), True)

    def test_all_else_is_none(self):
        huge = 10 ** 5000
        for number, thing in enumerate([
            None, True, False, 0, 1, -1, BIG, huge, 0.5, "", "1/2", "12", b"12", Fraction(1, 2),
            (), (1,), (1, 2, 3), ((1, 2),), ((1, 2), 3), (1, (2, 3)),
            [], [1], [1, 2], [1, 2, 3], [(1, 2)], {}, {1: 2}, {1, 2}, object(), tuple,
            (True, 2), (1, True), (False, 1), (True, True), (0, True), (1, False),
            (1, None), (None, 1), ("1", "2"), (1, "2"), ("1", 2), (1.0, 2), (1, 2.0), ([1], 2), (1, [2]),
            (0, 0), (1, 0), (-1, 0), (1, -1), (1, -2), (-1, -2), (0, -1), (BIG, 0), (1, -BIG), (huge, 0), (huge, -1),
            (0, 2), (0, BIG), (2, 2), (2, 4), (-2, 4), (4, 2), (6, 3), (BIG, BIG), (2 * THIRD_BIG, 3 * THIRD_BIG), (-3 * THIRD_BIG, THIRD_BIG),
            (huge, huge), (3 * huge, 2 * huge), (huge, 2), (2, huge),
        ]):
            with self.subTest(number=number):
                self.assertIs(is_ratio(thing), False)

    def test_what_is_asked_of_stays_as_it_was(self):
        asked = [1, 2]
        within = (1, [2])
        is_ratio(asked)
        is_ratio(within)
        self.assertEqual(asked, [1, 2])
        self.assertEqual(within, (1, [2]))


if __name__ == "__main__":
    unittest.main()
