"""[49]: primes; with [3], [11], [12]."""

import unittest

from tests.samples import D, F, S, W, chain, doubled, plainly_grown, plainly_grown_by, small_bushes, wide
from tipwoods.cuts import cuts_of
from tipwoods.primes import first_prime, is_prime, last_prime, primes_of

SOME = small_bushes(3) + small_bushes(4, (("a", 1), ("a", 2))) + [W, D, chain(60), doubled(7), wide(400)]


def plain_primes(bushes):
    """The bushes, told with the least first, that do not come of two others that are not the tip."""
    knots = [bush for bush in bushes if bush]
    made = {plainly_grown(upper, lower) for upper in knots for lower in knots if may_matter(upper, lower)}
    return [bush for bush in bushes if bush and bush not in made]


def may_matter(upper, lower):
    """Whether what comes of both can have as few as three knots."""
    return (str(upper) + str(lower)).count("'") <= 6


class PrimesTest(unittest.TestCase):
    def test_examples(self):
        self.assertEqual([
            is_prime(F), is_prime(("f", F, ())), is_prime(("s", S)), is_prime(()), primes_of(("f", S, S)),
            primes_of(()), last_prime(("s", F)), first_prime(("s", F)),
        ], [True, True, False, False, (("f", (), ()), ("s", ())), (), ("f", (), ()), ("s", ())])

    def test_beside_all_that_is_grown(self):
        bushes = small_bushes(3)
        primes = plain_primes(bushes)
        self.assertEqual([bush for bush in bushes if is_prime(bush)], primes)

    def test_primes_grow_the_bush(self):
        for bush in SOME:
            primes = primes_of(bush)
            self.assertIs(type(primes), tuple)
            self.assertEqual(plainly_grown_by((), primes), bush)
            for prime in primes:
                self.assertIs(is_prime(prime), True)
            self.assertIs(is_prime(bush), len(primes) == 1)
            self.assertEqual(len(cuts_of(bush)), len(primes) + 1)
            self.assertEqual(first_prime(bush), primes[0] if primes else None)
            self.assertEqual(last_prime(bush), primes[-1] if primes else None)

    def test_primes_of_what_primes_grow(self):
        primes = [F, S, ("f", F, ()), ("t", ()), ("f", S, ())]
        rows = [()]
        for _ in range(3):
            rows = rows + [(*row, prime) for row in rows for prime in primes if len(row) < 3]
        for row in set(rows):
            self.assertEqual(primes_of(plainly_grown_by((), row)), row)

    def test_the_greatest_ones(self):
        self.assertEqual(primes_of(chain(60)), (S,) * 60)
        self.assertEqual(primes_of(doubled(7)), (("d", (), ()),) * 7)
        self.assertEqual(primes_of(wide(400)), (wide(400),))
        self.assertIs(is_prime(wide(400)), True)
        self.assertIs(is_prime(chain(60)), False)
        row = tuple((letter, ()) for letter in "abcdefghijklmnopqrstuvwxyz" * 2)
        self.assertEqual(primes_of(plainly_grown_by((), row)), row)

    def test_the_tip(self):
        self.assertEqual([is_prime(()), primes_of(()), first_prime(()), last_prime(())], [False, (), None, None])
