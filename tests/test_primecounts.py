"""[51]: bushes and primes of a store, counted; with [11], [13]."""

import random
import time
import unittest

from tests.samples import LETTERS, bushes_with, chain, no_numbers, raised_by
from tipwoods.bushes import tips_of
from tipwoods.errors import InvalidNumber, TooMany
from tipwoods.primecounts import bushes_counted, prime_list, primes_counted
from tipwoods.primes import is_prime

K = (("f", 2), ("s", 1))
EIGHT = tuple((letter, 1 + at % 6) for at, letter in enumerate("abcdefgh"))
STORES = [
    (K, 5), ((("f", 2),), 6), ((("s", 1),), 16), ((("a", 1), ("a", 2), ("b", 2)), 4), ((("x", 3),), 4),
    ((("z", 6),), 3), ((("a", 1), ("a", 6)), 4), (tuple(("f", many) for many in range(1, 7)), 3), (EIGHT, 2),
    ((("a", 1), ("b", 1), ("c", 3)), 4),
]


class CountsTest(unittest.TestCase):
    def test_examples(self):
        self.assertEqual([
            bushes_counted(K, 2, 3), bushes_counted(K, 2, 2), primes_counted(K, 2, 2), primes_counted(K, 2, 1),
            primes_counted(K, 0, 1), primes_counted(K, 16, 12) > 10 ** 9, prime_list((("f", 2),), 2),
        ], [2, 3, 2, 0, 0, True, [("f", (), ("f", (), ())), ("f", ("f", (), ()), ())]])

    def test_beside_all_bushes(self):
        for store, most in STORES:
            for knots in range(most + 1):
                bushes = bushes_with(knots, store)
                tips = [tips_of(bush) for bush in bushes]
                primes = [is_prime(bush) for bush in bushes]
                for many in [*range(1, max(tips) + 2), 100]:
                    self.assertEqual(bushes_counted(store, knots, many), tips.count(many))
                    expected = sum(prime for prime, count in zip(primes, tips) if count == many)
                    self.assertEqual(primes_counted(store, knots, many), expected, (store, knots, many))

    def test_lists_beside_all_bushes(self):
        for store, most in STORES:
            for knots in range(most + 1):
                bushes = bushes_with(knots, store)
                if len(bushes) > 300:
                    error = raised_by(prime_list, store, knots)
                    self.assertEqual((type(error), error.limit), (TooMany, 300))
                else:
                    self.assertEqual(prime_list(store, knots), sorted(bush for bush in bushes if is_prime(bush)))

    def test_lists_up_to_the_limit(self):
        for store, knots in (((("a", 2), ("b", 2), ("c", 2), ("d", 2)), 2), ((("f", 6),), 3), ((("f", 6),), 4), (K, 6)):
            many = sum(bushes_counted(store, knots, tips) for tips in range(1, 101))
            error = raised_by(prime_list, store, knots)
            self.assertEqual(error is None, many <= 300, many)

    def test_just_three_hundred(self):
        store = (("a", 1), ("a", 2), ("b", 1))
        bushes = bushes_with(4, store)
        self.assertEqual(len(bushes), 300)
        self.assertEqual(prime_list(store, 4), sorted(bush for bush in bushes if is_prime(bush)))
        self.assertEqual(raised_by(prime_list, store, 5).limit, 300)

    def test_about_three_hundred(self):
        found = {}
        for most in range(1, 7):
            for more in range(9):
                for rest in range(9):
                    kinds = [(letter, most) for letter in LETTERS[:more]]
                    kinds += [(letter, 1) for letter in LETTERS[10:10 + rest]]
                    for knots in range(1, 4):
                        if 1 <= len(kinds) <= 8:
                            found[len(bushes_with(knots, tuple(kinds)))] = (tuple(kinds), knots)
        near = sorted(many for many in found if 250 <= many <= 350)
        self.assertTrue(near[0] <= 300 < near[-1])
        for many in near:
            error = raised_by(prime_list, *found[many])
            self.assertEqual(error is not None, many > 300, many)

    def test_the_greatest_ones(self):
        self.assertEqual(bushes_counted((("z", 6),), 16, 81), fuss(6, 16))
        self.assertEqual(bushes_counted((("s", 1),), 16, 1), 1)
        self.assertEqual(bushes_counted(tuple((letter, 1) for letter in "abcdefgh"), 16, 1), 8 ** 16)
        self.assertEqual(bushes_counted((("f", 2),), 16, 17), fuss(2, 16))
        self.assertEqual([bushes_counted(EIGHT, 16, 100), primes_counted(EIGHT, 16, 100)], [0, 0])
        self.assertEqual(primes_counted((("s", 1),), 16, 1), 0)
        self.assertEqual(primes_counted((("s", 1),), 1, 1), 1)
        self.assertEqual(prime_list((("s", 1),), 16), [])
        self.assertEqual(prime_list((("s", 1),), 1), [chain(1)])

    def test_great_counts_that_are_known(self):
        self.assertEqual([primes_counted(K, 16, 12), bushes_counted(K, 16, 12)], [3866848816, 4745793780])
        self.assertEqual(primes_counted((("f", 6),), 16, 81), 8175951659117794)
        self.assertEqual([primes_counted(K, 16, 100), bushes_counted(K, 16, 100)], [0, 0])
        six = tuple((letter, 6) for letter in "abcdefgh")
        self.assertEqual(bushes_counted(six, 16, 81), 8 ** 16 * fuss(6, 16))
        self.assertEqual(primes_counted(six, 16, 81), 8 ** 16 * 8175951659117794)
        self.assertEqual(primes_counted((("f", 2),), 15, 16), fuss(2, 15) - plain_cut((("f", 2),), 15, 16))
        mixed = tuple(("m", branches) for branches in range(1, 7))
        self.assertEqual(primes_counted(mixed, 16, 60), bushes_counted(mixed, 16, 60) - plain_cut(mixed, 16, 60))

    def test_bushes_that_are_cut_and_primes_are_all(self):
        # Each bush with a knot has one first prime, and one rest behind it.
        chance = random.Random(8)
        for _ in range(60):
            kinds = {(chance.choice("abc"), chance.randrange(1, 7)) for _ in range(chance.randrange(1, 9))}
            store = tuple(sorted(kinds))
            by_chance = chance.randrange(1, 60)
            for knots, tips in ((16, 12), (16, 96), (15, 16), (13, by_chance), (16, 48), (9, 24), (16, 1)):
                cut = plain_cut(store, knots, tips)
                self.assertEqual(primes_counted(store, knots, tips) + cut, bushes_counted(store, knots, tips))

    def test_many_counts_are_told_soon(self):
        stores = [K, EIGHT, (("f", 6),), tuple((letter, 6) for letter in "abcdefgh"),
                  tuple(("m", branches) for branches in range(1, 7))]
        counts = [(store, 16, tips) for store in stores for tips in range(1, 101)]
        for function in (primes_counted, bushes_counted):
            begin = time.perf_counter()
            for store, knots, tips in counts:
                function(store, knots, tips)
            self.assertLess((time.perf_counter() - begin) / len(counts), 0.002, function.__name__)

    def test_the_tip_is_of_each_store(self):
        for store, _ in STORES:
            self.assertEqual([bushes_counted(store, 0, 1), bushes_counted(store, 0, 2), primes_counted(store, 0, 1),
                              prime_list(store, 0)], [1, 0, 0, []])

    def test_least_and_greatest_of_each_number(self):
        for function in (bushes_counted, primes_counted):
            for knots, tips in ((0, 1), (16, 100), (0, 100), (16, 1)):
                self.assertIsNone(raised_by(function, K, knots, tips))
            for wrong in no_numbers(0, 16):
                self.assertIs(type(raised_by(function, K, wrong, 1)), InvalidNumber, wrong)
            for wrong in no_numbers(1, 100):
                self.assertIs(type(raised_by(function, K, 1, wrong)), InvalidNumber, wrong)
        for wrong in no_numbers(0, 16):
            self.assertIs(type(raised_by(prime_list, K, wrong)), InvalidNumber, wrong)

    def test_stores_of_one_to_eight_pairs(self):
        for many in range(1, 9):
            self.assertEqual(bushes_counted(EIGHT[:many], 1, 1), 1 + (many > 6))
            self.assertEqual(len(prime_list(EIGHT[:many], 1)), many)
        self.assertEqual(bushes_counted((("a", 1), ("a", 6), ("z", 1)), 1, 6), 1)


def plain_cut(store, knots, tips):
    """How many bushes have a first prime, and a bush that is not the tip behind it."""
    found = 0
    for above in range(1, knots):
        for middle in range(1, tips + 1):
            if (knots - above) % middle == 0 and tips % middle == 0:
                below = bushes_counted(store, (knots - above) // middle, tips // middle)
                found += below and below * primes_counted(store, above, middle)
    return found


def fuss(branches, knots):
    """How many bushes of so many knots there are if all knots have so many branches and one letter."""
    trees = [1]
    for inside in range(knots):
        rows = [1] + [0] * inside
        for _ in range(branches):
            rows = [sum(rows[at] * trees[most - at] for at in range(most + 1)) for most in range(inside + 1)]
        trees.append(rows[inside])
    return trees[knots]
