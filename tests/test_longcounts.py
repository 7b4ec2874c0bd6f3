"""[54]: how great long rows are; with [14] and the row of [3] on unlike parts."""

import itertools
import unittest

from tests.samples import D, F, S, W, chain, doubled, drawn, no_numbers, raised_by, roads_of, wide
from tipwoods.bushes import height_of, knots_of, near_depth, tips_of
from tipwoods.bushparts import count_unlike_parts
from tipwoods.errors import InvalidNumber, TooMany
from tipwoods.longcounts import knots_modulo, long_depths, tips_modulo, tips_whole, unlike_parts
from tipwoods.rowcounts import row_counts

N = 10 ** 30
FAR = ("f", F, ())
PAIRS = [(F, 2), (S, 3), ((), N), (FAR, 1), (W, 0), (D, 1), (("s", F), 2)]
ROWS = [()] + [row for many in (1, 2) for row in itertools.product(PAIRS, repeat=many)]
ROWS += [((), (FAR, 3), (S, 1))[1:], ((("s", ("t", ())), 2), (F, 1), (FAR, 2))]
SMALL = [row for row in ROWS if all(years < 9 for growth, years in row)]


class LongCountsTest(unittest.TestCase):
    def test_examples(self):
        self.assertEqual([
            long_depths(((FAR, N), (S, 2))), tips_modulo(((F, N),), 7), knots_modulo(((F, N),), 7),
            tips_whole(((F, 12), (S, N))), unlike_parts(((F, 2), (S, 1))),
        ], [(1000000000000000000000000000002, 2000000000000000000000000000002), 2, 1, 4096, 4])

    def test_beside_rows_of_few_years(self):
        for row in SMALL:
            years = [growth for growth, many in row for _ in range(many)]
            knots, tips, near, height = row_counts(tuple(years[:12])) if len(years) <= 12 else (None,) * 4
            self.assertIsNotNone(tips)
            self.assertEqual(long_depths(row), (near, height))
            self.assertEqual(tips_whole(row), tips)
            for number in (1, 2, 3, 7, 10, 12, 400, 10 ** 9 - 1, 10 ** 9):
                self.assertEqual(tips_modulo(row, number), tips % number)
                self.assertEqual(knots_modulo(row, number), knots % number)

    def test_beside_drawn_bushes(self):
        for row in SMALL:
            bush = drawn(row)
            if len(roads_of(bush)) <= 400:
                self.assertEqual(long_depths(row), (near_depth(bush), height_of(bush)))
                self.assertEqual(tips_whole(row), tips_of(bush))
                self.assertEqual(knots_modulo(row, 10 ** 9), knots_of(bush))
                self.assertEqual(unlike_parts(row), count_unlike_parts(bush))
            self.assertEqual(unlike_parts(row), len(set(roads_of(bush).values())))

    def test_the_order_of_pairs_counts_for_knots(self):
        self.assertEqual([knots_modulo(((F, 1), (S, 1)), 100), knots_modulo(((S, 1), (F, 1)), 100)], [3, 2])
        # Tips that all come in a late year bring all knots of the years behind.
        self.assertEqual(knots_modulo(((S, N), (F, 2), (S, N)), 10 ** 9), (N + 3 + 4 * N) % 10 ** 9)

    def test_years_by_the_sum_of_all_powers(self):
        for tips, growth in ((2, F), (3, ("f", (), (), ())), (6, ("f",) + ((),) * 6), (333, wide(400))):
            tips, knots = tips_of(growth), knots_of(growth)
            for years in (1, 2, 3, 63, 64, 65, 10 ** 12, N - 1, N):
                for number in (2, 6, 97, 10 ** 9 - 7, 10 ** 9):
                    power = pow(tips, years, number * (tips - 1))
                    self.assertEqual(tips_modulo(((growth, years),), number), power % number)
                    # The knots are so many times 1 + tips + tips * tips ..
                    many = knots * ((power - 1) // (tips - 1))
                    self.assertEqual(knots_modulo(((growth, years),), number), many % number)

    def test_modulus_one(self):
        for row in ROWS:
            self.assertEqual([tips_modulo(row, 1), knots_modulo(row, 1)], [0, 0])

    def test_no_years(self):
        for row in ((), ((F, 0),), (((), N),), (((), N), (W, 0)) * 6):
            self.assertEqual([long_depths(row), tips_modulo(row, 5), knots_modulo(row, 5), tips_whole(row),
                              unlike_parts(row)], [(0, 0), 1, 0, 1, 1])

    def test_twelve_pairs_of_the_most_years(self):
        row = ((chain(60), N),) * 12
        self.assertEqual([long_depths(row), tips_modulo(row, 9), knots_modulo(row, 10 ** 9), tips_whole(row)],
                         [(720 * N, 720 * N), 1, 0, 1])
        self.assertEqual(unlike_parts(row), 720 * N + 1)
        row = ((wide(400), N),) * 12
        self.assertEqual(unlike_parts(row), 12 * N * (count_unlike_parts(wide(400)) - 1) + 1)
        self.assertEqual(tips_modulo(row, 10 ** 9), pow(tips_of(wide(400)), 12 * N, 10 ** 9))
        self.assertEqual(long_depths(((doubled(7), N),) * 12), (84 * N, 84 * N))

    def test_equal_years_in_two_pairs_have_unlike_parts(self):
        self.assertEqual(unlike_parts(((S, 2), (S, 2))), 5)
        self.assertEqual(unlike_parts(((W, N), (S, N), (W, N))), 1 + 2 * N + N + 2 * N)

    def test_wrong_numbers(self):
        for function in (tips_modulo, knots_modulo):
            for number in no_numbers(1, 10 ** 9):
                self.assertIs(type(raised_by(function, ((F, 3),), number)), InvalidNumber, number)


class WholeTest(unittest.TestCase):
    def assert_too_many(self, row):
        error = raised_by(tips_whole, row)
        self.assertEqual((type(error), error.limit), (TooMany, 4000))

    def test_numbers_of_four_thousand_digits(self):
        for growth in (F, ("f",) + ((),) * 6, doubled(7), wide(400), ("f", F, S, ())):
            tips = tips_of(growth)
            years, number = 0, 1
            while number * tips < 10 ** 4000:
                years, number = years + 1, number * tips
            self.assertGreaterEqual(number, 10 ** 3996)
            self.assertEqual(tips_whole(((growth, years), (S, N))), number)
            self.assert_too_many(((growth, years + 1),))

    def test_ten_to_some_power(self):
        ten = ("t", ("t", (), (), (), (), ()), ("t", (), (), (), (), ()))
        self.assertEqual(tips_whole(((ten, 3999),)), 10 ** 3999)
        self.assert_too_many(((ten, 4000),))
        self.assertEqual(tips_whole(((ten, 3998), (("t",) + ((),) * 6, 1), (F, 3), (S, N))), 48 * 10 ** 3998)
        nine = ("t", *[("t", (), (), ())] * 3)
        self.assertEqual(tips_whole(((nine, 1), (ten, 3999))), 9 * 10 ** 3999)
        self.assert_too_many(((nine, 1), (F, 1), (ten, 3999)))

    def test_many_years(self):
        self.assert_too_many(((F, N),) * 12)
        self.assert_too_many(((S, N), (wide(400), N)))
        self.assertEqual(tips_whole(((S, N),) * 11 + ((F, 13287),)), 2 ** 13287)
        self.assert_too_many(((S, N),) * 11 + ((F, 13288),))
