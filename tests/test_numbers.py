"""Promises [4], [6], [7] and [8]: floorward/numbers.py."""

import math
import time
import unittest
from unittest import mock

from floorward.errors import BadNumber, BadPower
from floorward.numbers import (never_below_from, poly_minus, poly_product, poly_shift, poly_sum, poly_value, rest, root,
                               settled_from, sign_from, turnings)
from tests.plain import HUGE

NO_NUMBERS = (-1, -10 ** 30000, True, False, None, 1.0, 4.5, "4", b"4", (), [], [4], {}, object(), int, 3 + 0j,
              mock.ANY)
NO_POWERS = (0, -1, 65, 10 ** 30000, True, False, None, 2.0, "2", b"2", (), [2], {}, object(), int, mock.ANY)


class RootTest(unittest.TestCase):
    def check(self, n, k):
        r = root(n, k)
        self.assertIs(type(r), int)
        self.assertTrue(r ** k <= n < (r + 1) ** k, (k, r))
        self.assertEqual(rest(n, k), n - r ** k)

    def test_all_small_numbers(self):
        for k in range(1, 9):
            r = 0
            for n in range(700):
                if (r + 1) ** k <= n:
                    r += 1
                self.assertEqual(root(n, k), r, (n, k))
                self.assertEqual(rest(n, k), n - r ** k, (n, k))

    def test_nought_and_one(self):
        for k in range(1, 65):
            self.assertEqual((root(0, k), rest(0, k)), (0, 0))
            self.assertEqual((root(1, k), rest(1, k)), (1, 0))
            self.assertEqual((root(2 ** k - 1, k), rest(2 ** k - 1, k)), (1, 2 ** k - 2))

    def test_perfect_powers_and_their_neighbours(self):
        for k in range(1, 65):
            for r in (1, 2, 3, 4, 5, 7, 8, 9, 15, 16, 17, 100, 999, 2 ** 31, 2 ** 64 - 1, 10 ** 40 + 1):
                whole = r ** k
                self.assertEqual((root(whole, k), rest(whole, k)), (r, 0))
                self.assertEqual((root(whole - 1, k), rest(whole - 1, k)), (r - 1, whole - 1 - (r - 1) ** k))
                if k > 1:
                    self.assertEqual((root(whole + 1, k), rest(whole + 1, k)), (r, 1))

    def test_thirty_thousand_figures_in_a_reasonable_time(self):
        begun = time.process_time()
        for k in range(1, 65):
            self.check(HUGE, k)
        for k in (2, 3, 4, 64):
            r = 10 ** (30000 // k) + 7
            self.check(r ** k, k)
            self.check(r ** k - 1, k)
        self.assertLess(time.process_time() - begun, 60)

    def test_by_names_in_any_order(self):
        self.assertEqual(root(k=3, n=30), 3)
        self.assertEqual(root(n=30, k=3), 3)
        self.assertEqual(rest(k=3, n=30), 3)
        self.assertEqual(rest(30, k=2), 5)

    def test_bad_number_holds_the_very_object(self):
        for bad in NO_NUMBERS:
            for function in (root, rest):
                with self.assertRaises(BadNumber) as caught:
                    function(bad, 2)
                self.assertIs(caught.exception.value, bad)

    def test_bad_power_holds_the_very_object(self):
        for bad in NO_POWERS:
            for function in (root, rest):
                with self.assertRaises(BadPower) as caught:
                    function(9, bad)
                self.assertIs(caught.exception.value, bad)

    def test_the_number_comes_first(self):
        for function in (root, rest):
            with self.assertRaises(BadNumber) as caught:
                function("n", "k")
            self.assertEqual(caught.exception.value, "n")


POLYS = ((), (1,), (-3,), (0, 1), (1, 2), (5, 0, -1), (0, 0, 0, 2), (1, -1, 1, -1), (-7, 3, 0, 0, 2, 9),
         (10 ** 30, -10 ** 29), (2, 0, 4, -10 ** 50))


def slow_value(poly, r):
    return sum(coefficient * r ** at for at, coefficient in enumerate(poly))


class PolynomialTest(unittest.TestCase):
    def check_form(self, poly):
        self.assertIs(type(poly), tuple)
        self.assertTrue(poly == () or poly[-1] != 0, poly)

    def test_values(self):
        self.assertEqual(poly_value((1, 2), 5), 11)
        self.assertEqual(poly_value((), 5), 0)
        self.assertEqual(poly_value((7, 1, 0, 0), -3), 4)
        for poly in POLYS:
            for r in (-10 ** 20, -3, -1, 0, 1, 2, 10, 10 ** 20):
                self.assertEqual(poly_value(poly, r), slow_value(poly, r))
                self.assertEqual(poly_value(list(poly) + [0, 0], r), slow_value(poly, r))

    def test_sums_and_products(self):
        self.assertEqual(poly_sum((1, 2), (3,)), (4, 2))
        self.assertEqual(poly_sum((1, 2), (3, -2)), (4,))
        self.assertEqual(poly_sum((1, 2), (-1, -2)), ())
        self.assertEqual(poly_sum((), ()), ())
        self.assertEqual(poly_product((1, 2), (3, 4)), (3, 10, 8))
        self.assertEqual(poly_product((1, 2), ()), ())
        self.assertEqual(poly_product((), ()), ())
        for one in POLYS:
            for other in POLYS:
                total, product = poly_sum(one, other), poly_product(one, other)
                self.check_form(total)
                self.check_form(product)
                for r in (-11, -1, 0, 1, 2, 10 ** 9):
                    self.assertEqual(slow_value(total, r), slow_value(one, r) + slow_value(other, r))
                    self.assertEqual(slow_value(product, r), slow_value(one, r) * slow_value(other, r))

    def test_shifts(self):
        self.assertEqual(poly_shift((0, 0, 1), 1), (1, 2, 1))
        self.assertEqual(poly_shift((), 5), ())
        self.assertEqual(poly_shift((3,), -5), (3,))
        for poly in POLYS:
            for by in (-10 ** 12, -2, -1, 0, 1, 3, 10 ** 12):
                shifted = poly_shift(poly, by)
                self.check_form(shifted)
                self.assertEqual(len(shifted), len(poly))
                for r in (-9, 0, 1, 2, 77):
                    self.assertEqual(slow_value(shifted, r), slow_value(poly, r + by))

    def test_noughts_at_the_end_are_taken_and_never_given(self):
        self.assertEqual(poly_sum((1, 2, 0), (3, 0, 0, 0)), (4, 2))
        self.assertEqual(poly_sum((0, 0), (0,)), ())
        self.assertEqual(poly_product((1, 2, 0), (3, 0)), (3, 6))
        self.assertEqual(poly_product((0, 0), (3, 1)), ())
        self.assertEqual(poly_shift((1, 1, 0, 0), 2), (3, 1))
        self.assertEqual(poly_shift([0, 0], 2), ())

    def test_lists_names_and_nothing_changed(self):
        one, other = [1, 2, 0], [3, -2]
        self.assertEqual(poly_sum(other=other, one=one), (4,))
        self.assertEqual(poly_product(other=other, one=one), (3, 4, -4))
        self.assertEqual(poly_shift(by=1, poly=one), (3, 2))
        self.assertEqual(poly_value(r=4, poly=one), 9)
        self.assertEqual(sign_from(first=1, poly=one), 1)
        self.assertEqual((one, other), ([1, 2, 0], [3, -2]))

    def test_thirty_thousand_figures(self):
        self.assertEqual(poly_value((1, 0, HUGE), HUGE), HUGE ** 3 + 1)
        self.assertEqual(poly_sum((HUGE,), (0, HUGE)), (HUGE, HUGE))
        self.assertEqual(poly_product((1, HUGE), (-1, HUGE)), (-1, 0, HUGE ** 2))
        self.assertEqual(poly_shift((0, 0, 1), HUGE), (HUGE ** 2, 2 * HUGE, 1))


def product_of(*factors):
    total = (1,)
    for factor in factors:
        total = poly_product(total, factor)
    return total


def slow_sign(poly, first):
    """The sign at all integers from first on, found by looking at them up to beyond all zeros."""
    beyond = max(first, 0) + sum(abs(coefficient) for coefficient in poly) + 2
    values = [slow_value(poly, r) for r in range(first, beyond)]
    signs = {(value > 0) - (value < 0) for value in values}
    return signs.pop() if len(signs) == 1 else None


class SignTest(unittest.TestCase):
    def test_constants(self):
        for first in (-10 ** 40, -1, 0, 1, 10 ** 40):
            self.assertEqual(sign_from((), first), 0)
            self.assertEqual(sign_from((0, 0, 0), first), 0)
            self.assertEqual(sign_from((5,), first), 1)
            self.assertEqual(sign_from((-5, 0), first), -1)

    def test_lines(self):
        # r - 4: nought at 4
        self.assertEqual([sign_from((-4, 1), first) for first in (-9, 3, 4, 5, 6)], [None, None, None, 1, 1])
        self.assertEqual([sign_from((4, -1), first) for first in (-9, 3, 4, 5, 6)], [None, None, None, -1, -1])
        # 2 r - 7: below 0 at 3, above at 4
        self.assertEqual([sign_from((-7, 2), first) for first in (2, 3, 4, 5)], [None, None, 1, 1])

    def test_a_zero_that_only_touches(self):
        touching = product_of((-4, 1), (-4, 1))
        self.assertEqual([sign_from(touching, first) for first in (3, 4, 5)], [None, None, 1])
        between = product_of((-7, 2), (-7, 2))
        self.assertEqual([sign_from(between, first) for first in (-50, 3, 4)], [1, 1, 1])

    def test_zeros_between_two_integers_do_not_count(self):
        # (3 r - 10) (3 r - 11) is below 0 between 3 and 4 only
        dip = product_of((-10, 3), (-11, 3))
        self.assertEqual([sign_from(dip, first) for first in (-50, 0, 3, 4)], [1, 1, 1, 1])
        self.assertEqual(sign_from([-c for c in dip], -50), -1)

    def test_the_turnings_themselves(self):
        self.assertEqual(turnings((-4, 1), 0), [4, 5])
        self.assertEqual(turnings((-4, 1), 4), [5])
        self.assertEqual(turnings((-7, 2), 0), [4])
        self.assertEqual(turnings(product_of((-4, 1), (-4, 1)), 0), [4, 5])
        self.assertEqual(turnings(product_of((-4, 1), (-5, 1), (3, 1)), -9), [-3, -2, 4, 6])
        self.assertEqual(turnings((3,), 0), [])

    def test_small_polynomials_by_looking(self):
        factors = [(at, by) for by in (1, 2, -1) for at in range(-6, 7, 3)]
        for one in factors:
            for other in factors:
                for third in ((1,), (1, 1), (-5, 2), (2, 0, 1)):
                    poly = product_of(one, other, third)
                    for first in (-8, -3, -1, 0, 1, 2, 3, 6, 7):
                        self.assertEqual(sign_from(poly, first), slow_sign(poly, first), (poly, first))

    def test_neighbouring_polynomials_by_looking(self):
        for low in range(-4, 5):
            for middle in range(-4, 5):
                for high in (-2, 0, 1, 3):
                    poly = (low, middle, -1, high)
                    for first in (-5, 0, 2):
                        self.assertEqual(sign_from(poly, first), slow_sign(poly, first), (poly, first))

    def test_five_factors_with_large_coefficients(self):
        zeros = [10 ** 5, 10 ** 5 + 1, 3 * 10 ** 5, 7 * 10 ** 5 + 1, 9 * 10 ** 5]
        poly = product_of(*[(-zero, 1) for zero in zeros])
        for zero in zeros:
            self.assertIsNone(sign_from(poly, zero))
            self.assertIsNone(sign_from(poly, zero - 1))
        self.assertEqual(sign_from(poly, zeros[-1] + 1), 1)
        self.assertEqual(sign_from([-c for c in poly], zeros[-1] + 1), -1)
        self.assertIsNone(sign_from(poly, -10 ** 60))

    def test_far_zeros_to_the_very_integer(self):
        zero = 10 ** 29 + 123456789
        for poly, first_above in (((-zero, 1), zero + 1), ((-2 * zero - 1, 2), zero + 1),
                                  (product_of((-zero, 1), (-zero, 1)), zero + 1),
                                  (product_of((-zero, 1), (1, 0, 1)), zero + 1)):
            self.assertIsNone(sign_from(poly, first_above - 1))
            self.assertEqual(sign_from(poly, first_above), 1)
            self.assertEqual(sign_from([-c for c in poly], first_above), -1)

    def test_thirty_figures_in_each_of_six_coefficients(self):
        big = 10 ** 30 - 1
        poly = (-big, big, -big, big, -big, big)
        self.assertEqual([sign_from(poly, first) for first in (-big, 0, 1, 2)], [None, None, None, 1])
        self.assertEqual(sign_from((big, big, big, big, big, big), 0), 1)
        self.assertIsNone(sign_from((-big, 0, 0, 0, 0, 1), 10 ** 6 - 1))
        self.assertEqual(sign_from((-big, 0, 0, 0, 0, 1), 10 ** 6), 1)
        # r ** 2 - big: the zero lies between two integers
        self.assertIsNone(sign_from((-big, 0, 1), math.isqrt(big)))
        self.assertEqual(sign_from((-big, 0, 1), math.isqrt(big) + 1), 1)

    def test_a_first_of_thirty_thousand_figures(self):
        begun = time.process_time()
        self.assertEqual(sign_from((-5, 3, 0, 0, 0, 1), HUGE), 1)
        self.assertEqual(sign_from((-5, 3, 0, 0, 0, -1), HUGE), -1)
        self.assertIsNone(sign_from((-5, 3, 0, 0, 0, 1), -HUGE))
        self.assertEqual(sign_from((1, 0, 1), -HUGE), 1)
        self.assertLess(time.process_time() - begun, 60)


class FromSomeRootOnTest(unittest.TestCase):
    def test_differences(self):
        self.assertEqual(poly_minus((1, 2, 3), (1, 1)), (0, 1, 3))
        self.assertEqual(poly_minus((1, 2, 3), [0, 2, 3, 0]), (1,))
        self.assertEqual(poly_minus((), (0, 0, 5)), (0, 0, -5))
        self.assertEqual(poly_minus((4, 0), (4,)), ())

    def test_by_looking(self):
        for low in range(-4, 5):
            for middle in range(-5, 4):
                for high in ((), (1,), (-1,), (-2, 1)):
                    poly = poly_sum((low, middle) + high, ())
                    for first in (-7, 0, 1, 4):
                        self.assertEqual(settled_from(poly, first), self.slow_settled(poly, first), (poly, first))
                        self.assertEqual(never_below_from(poly, first), self.slow_never_below(poly, first),
                                         (poly, first))

    def signs(self, poly, first):
        """The signs at the integers from first to one behind which these polynomials keep theirs."""
        return [(value > 0) - (value < 0) for value in [poly_value(poly, r) for r in range(first, 30)]]

    def slow_settled(self, poly, first):
        signs = self.signs(poly, first)
        return min(at for at in range(len(signs)) if len(set(signs[at:])) == 1) + first

    def slow_never_below(self, poly, first):
        signs = self.signs(poly, first)
        return min([first + at for at in range(len(signs)) if min(signs[at:]) >= 0], default=None)


if __name__ == "__main__":
    unittest.main()
