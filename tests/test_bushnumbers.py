"""[47]: the numbers of bushes; with [4]."""

import math
import unittest

from tests.samples import D, F, LETTERS, S, bushes_with, chain, no_numbers, raised_by, wide
from tipwoods.bushnumbers import bush_at, bush_index, count_bushes
from tipwoods.errors import InvalidNumber


def all_bushes(knots, letters, most):
    kinds = tuple((letter, many) for letter in LETTERS[:letters] for many in range(1, most + 1))
    return sorted(bushes_with(knots, kinds))


def closed_count(knots, letters, most):
    """How many bushes there are, by all orders of knots and tips that are read as texts."""
    ways = [1]
    for _ in range(knots):
        ways = [sum(ways[at - more] for more in range(most) if 0 <= at - more < len(ways))
                for at in range(len(ways) + most - 1)]
    found = 0
    for more, many in enumerate(ways):
        found += many * math.comb(knots + more + 1, knots) // (knots + more + 1)
    return found * letters ** knots


SMALL = [(0, 1, 1), (0, 26, 6), (1, 1, 1), (1, 3, 2), (1, 26, 6), (2, 1, 2), (2, 2, 3), (2, 3, 6), (3, 1, 6), (3, 2, 2),
         (3, 3, 1), (4, 1, 3), (4, 2, 2), (5, 1, 2), (5, 2, 1), (6, 1, 2)]


class NumbersTest(unittest.TestCase):
    def test_examples(self):
        self.assertEqual([count_bushes(2, 1, 2), [bush_at(2, 1, 2, index) for index in range(3)], bush_index(F, 6, 2),
                          bush_index(S, 18, 1), count_bushes(0, 26, 6)],
                         [6, [("a", (), ("a", ())), ("a", (), ("a", (), ())), ("a", ("a", ()))], 11, None, 1])

    def test_beside_all_bushes(self):
        for knots, letters, most in SMALL:
            found = all_bushes(knots, letters, most)
            self.assertEqual(count_bushes(knots, letters, most), len(found))
            step = 1 + len(found) // 400
            for index in [*range(0, len(found), step), len(found) - 1]:
                self.assertEqual(bush_at(knots, letters, most, index), found[index])
                self.assertEqual(bush_index(found[index], letters, most), index)
            self.assertIs(type(raised_by(bush_at, knots, letters, most, len(found))), InvalidNumber)

    def test_counts_of_all_kinds(self):
        for knots in (0, 1, 2, 7, 13, 19, 20):
            for letters in (1, 2, 25, 26):
                for most in range(1, 7):
                    self.assertEqual(count_bushes(knots, letters, most), closed_count(knots, letters, most))

    def test_the_greatest_ones(self):
        many = count_bushes(20, 26, 6)
        # A knot with more branches comes behind one that is like it but for these.
        last = ()
        for _ in range(20):
            last = ("z", last, (), (), (), (), ())
        self.assertEqual(bush_at(20, 26, 6, many - 1), last)
        self.assertEqual(bush_index(last, 26, 6), many - 1)
        self.assertEqual(bush_index(chain(20, "a"), 1, 1), 0)
        self.assertEqual(bush_index(chain(20, "z"), 26, 1), 26 ** 20 - 1)
        for share in range(1, 40):
            index = many * share // 40
            self.assertEqual(bush_index(bush_at(20, 26, 6, index), 26, 6), index)

    def test_numbers_are_in_pythons_order(self):
        many = count_bushes(9, 3, 4)
        found = [bush_at(9, 3, 4, index) for index in range(0, many, many // 300)]
        self.assertEqual(found, sorted(found))
        self.assertEqual(len(found), len(set(found)))

    def test_the_first_bush_of_all(self):
        self.assertEqual(bush_at(2, 1, 6, 0), ("a", (), (), (), (), (), ("a", ())))
        self.assertEqual(bush_at(0, 26, 6, 0), ())
        self.assertEqual(bush_index((), 1, 1), 0)

    def test_bushes_that_are_not_counted(self):
        self.assertIsNone(bush_index(("b", ()), 1, 6))
        self.assertEqual(bush_index(("b", ()), 2, 6), 6)
        self.assertIsNone(bush_index(("a", ("a", (), ())), 1, 1))
        self.assertIsNone(bush_index(("a", ("b", ()), ()), 1, 2))
        self.assertIsNone(bush_index(("a",) + ((),) * 6, 26, 5))
        self.assertEqual(bush_index(("a",) + ((),) * 6, 26, 6), 5)
        self.assertIsNone(bush_index(chain(21), 26, 6))
        self.assertIsNotNone(bush_index(chain(20), 26, 6))
        self.assertIsNone(bush_index(wide(400), 26, 6))
        self.assertEqual(bush_at(5, 26, 6, bush_index(D, 26, 6)), D)

    def test_least_and_greatest_of_each_number(self):
        for function in (count_bushes, lambda *numbers: bush_at(*numbers, 0)):
            for numbers in ((0, 1, 1), (20, 26, 6), (20, 1, 1), (0, 26, 1), (0, 1, 6)):
                self.assertIsNone(raised_by(function, *numbers))
            for at, (least, greatest) in enumerate(((0, 20), (1, 26), (1, 6))):
                for wrong in no_numbers(least, greatest):
                    numbers = [1, 1, 1]
                    numbers[at] = wrong
                    self.assertIs(type(raised_by(function, *numbers)), InvalidNumber, numbers)

    def test_wrong_indices(self):
        for knots, letters, most in ((0, 1, 1), (2, 1, 2), (20, 26, 6)):
            many = count_bushes(knots, letters, most)
            for wrong in no_numbers(0, many - 1):
                self.assertIs(type(raised_by(bush_at, knots, letters, most, wrong)), InvalidNumber, wrong)
