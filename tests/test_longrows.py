"""[53]: long rows; with [3], [12], [14]."""

import itertools
import unittest

from tests.samples import (
    D, F, NO_LONG_ROWS, ODD_VALUES, S, W, chain, doubled, drawn, letters, no_numbers, raised_by, wide,
)
from tipwoods.errors import InvalidNumber
from tipwoods.longrows import is_long_row, long_alike, long_parting, long_prime_at, long_primes
from tipwoods.primes import primes_of

N = 10 ** 30
FF = ("f", F, F)


def spread(long):
    """All primes of a long row, one by one."""
    return [prime for growth, years in long for _ in range(years) for prime in primes_of(growth)]


def plain_parting(primes, mates):
    for at, (prime, mate) in enumerate(itertools.zip_longest(primes, mates)):
        if prime != mate:
            return at
    return None


class IsLongRowTest(unittest.TestCase):
    def test_examples(self):
        self.assertEqual([is_long_row(((F, N), ((), 0))), is_long_row((F, 1))], [True, False])

    def test_long_rows(self):
        for value in ((), ((F, 0),), (((), N),), ((F, 1),) * 12, ((wide(400), N),) * 12, ((chain(60), 1), (S, N))):
            self.assertIs(is_long_row(value), True)

    def test_wrong_values(self):
        for value in NO_LONG_ROWS + ODD_VALUES:
            self.assertIs(is_long_row(value), False)
            if value != (F, 1):
                self.assertIs(is_long_row((value,)), False)
                self.assertIs(is_long_row(((F, 1), value)), False)
            if value != F:
                self.assertIs(is_long_row(((value, 1),)), False)

    def test_years(self):
        for years in (0, 1, N - 1, N):
            self.assertIs(is_long_row(((F, years),)), True)
        for years in no_numbers(0, N):
            self.assertIs(is_long_row(((F, years),)), False)

    def test_pairs(self):
        for many in range(15):
            self.assertIs(is_long_row((((), 1),) * many), many <= 12)


class PrimesTest(unittest.TestCase):
    def test_examples(self):
        self.assertEqual([long_primes(((F, N), (W, 2))), long_prime_at(((W, N),), N + 1)], [N + 4, ("s", ())])

    def test_few_years(self):
        for long in ((), ((F, 0),), (((), 5),), ((W, 3), (S, 0), ((), 2), (FF, 2), (S, 1)), ((chain(60), 2), (D, 1))):
            primes = spread(long)
            self.assertEqual(long_primes(long), len(primes))
            self.assertEqual([long_prime_at(long, index) for index in range(len(primes))], primes)

    def test_ends_of_pairs(self):
        long = ((W, N), ((), N), (S, 0), (D, N), (F, 1))
        last = long_primes(long) - 1
        many = len(primes_of(D))
        self.assertEqual(last, 2 * N + many * N)
        for index, prime in ((0, F), (1, S), (2 * N - 2, F), (2 * N - 1, S), (2 * N, primes_of(D)[0]),
                             (last - 1, primes_of(D)[-1]), (last, F)):
            self.assertEqual(long_prime_at(long, index), prime)

    def test_the_greatest_ones(self):
        self.assertEqual(long_primes(((chain(60), N),) * 12), 720 * N)
        self.assertEqual(long_prime_at(((chain(60), N),) * 12, 720 * N - 1), S)
        self.assertEqual(long_primes(((wide(400), N),) * 12), 12 * N)

    def test_wrong_indices(self):
        for long in ((), ((F, 0),), (((), N),), ((W, 3),), ((W, N),)):
            many = long_primes(long)
            for index in no_numbers(0, many - 1):
                self.assertIs(type(raised_by(long_prime_at, long, index)), InvalidNumber, (long, index))
            if many:
                self.assertIsNone(raised_by(long_prime_at, long, many - 1))


class PartingTest(unittest.TestCase):
    def assert_parting(self, long, beside, index):
        for first, second in ((long, beside), (beside, long)):
            self.assertEqual(long_parting(first, second), index)
            self.assertIs(long_alike(first, second), index is None)

    def test_examples(self):
        self.assert_parting(((F, 2),), ((FF, 1),), None)
        self.assert_parting(((W, N), (F, 1)), ((F, 1), (("s", F), N)), None)
        self.assert_parting(((F, 5), (S, 1)), ((F, N),), 5)
        self.assert_parting(((F, N),), ((F, 7),), 7)

    def test_all_short_long_rows(self):
        pairs = [(growth, years) for growth in (F, S, W, (), ("s", F)) for years in (0, 1, 2, 3)]
        rows = [()] + [(pair,) for pair in pairs] + list(itertools.product(pairs[::2], pairs[1::3]))
        primes = [spread(row) for row in rows]
        for at, row in enumerate(rows):
            for mate, beside in enumerate(rows[: at + 1]):
                self.assert_parting(row, beside, plain_parting(primes[at], primes[mate]))

    def test_all_words_of_two_letters(self):
        words = ["".join(word) for many in range(1, 6) for word in itertools.product("ab", repeat=many)]
        bushes = {word: letters(word) for word in words}
        for word in words:
            for other in words[::2]:
                expected = plain_parting((word * 40)[:40], (other * 40)[:40])
                index = long_parting(((bushes[word], N),), ((bushes[other], N),))
                if expected is None:
                    expected = None if len(word) == len(other) else N * min(len(word), len(other))
                self.assertEqual(index, expected, (word, other))

    def test_words_that_part_as_late_as_can_be(self):
        for first, second in ((59, 60), (58, 59), (53, 60), (1, 60), (7, 11)):
            # Two words that go on alike for as many letters as both have, less two, at most.
            word, other = far_words(first, second)
            expected = plain_parting((word * 300)[:300], (other * 300)[:300])
            self.assert_parting(((letters(word), N),), ((letters(other), N),), expected)
            head = ((chain(7), N),)
            self.assert_parting(head + ((letters(word), N),), head + ((letters(other), N),), 7 * N + expected)
        word, other = far_words(59, 60)
        self.assert_parting(((letters(word), N),), ((letters(other), N),), 117)

    def test_beginnings_within_a_growth(self):
        word = letters("abcab")
        self.assert_parting(((word, N),), ((letters("ab"), 1), (letters("cabab"), N)), 5 * N)
        self.assert_parting(((word, N),), ((letters("ab"), 1), (letters("cabab"), N - 1), (letters("cab"), 1)), None)
        turned = ((letters("ab"), 1), (letters("cabab"), N - 1))
        self.assert_parting(((word, N),), (*turned, (letters("cac"), 1)), 5 * N - 1)

    def test_far_ends(self):
        self.assert_parting(((F, N), (S, 1)), ((F, N), (S, 2)), N + 1)
        self.assert_parting(((F, N), (S, 1)), ((F, N - 1), (S, 1)), N - 1)
        self.assert_parting(((F, N), (F, N)), ((FF, N),), None)
        self.assert_parting(((F, N),) * 12, ((F, N),) * 11 + ((F, N - 1),), 12 * N - 1)
        self.assert_parting(((doubled(7), N),) * 12, ((doubled(6), N),) * 12, 72 * N)
        self.assert_parting(((wide(400), N),) * 12, ((wide(400), N),) * 11 + ((wide(399), N),), 11 * N)

    def test_the_least_of_several_indices(self):
        # The one long row changes at N, the other one ahead of it; they are unlike at both.
        half = N // 2
        self.assert_parting(((F, N), (S, 5)), ((F, half), (S, 1), (F, 2 * half)), half)
        self.assert_parting(((F, N), (S, 5)), ((F, half), (S, 1), (F, half - 2), (W, 9)), half)
        self.assert_parting(((W, N), (S, 5)), ((W, half), (F, 1), (S, 1), (W, half), (F, 1)), 2 * N)

    def test_years_of_the_tip_are_no_years(self):
        self.assert_parting((((), N), (F, 3), ((), 1)), ((F, 1), ((), 5), (F, 2)), None)
        self.assert_parting((), (((), N),) * 12, None)
        self.assert_parting((), ((S, 0),), None)
        self.assert_parting((), ((S, 1),), 0)

    def test_alike_if_all_primes_are(self):
        rows = [((F, 2), (S, 1)), ((W, 1),), ((F, 1), (W, 1)), ((FF, 1), (S, 1)), ((F, 1), (S, 1)), ((S, 1),), ()]
        for long in rows:
            for beside in rows:
                self.assertIs(long_alike(long, beside), drawn(long) == drawn(beside))


def far_words(first, second):
    """Two words with so many letters that, again and again, are alike for long."""
    a_row = "a" * (first - 1)
    return a_row + "b", a_row + "b" + "a" * (second - first)
