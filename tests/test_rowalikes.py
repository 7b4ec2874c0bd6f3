"""[50]: rows alike; with [3], [12]."""

import itertools
import unittest

from tests.samples import D, F, S, W, chain, plainly_grown_by, small_bushes, wide
from tipwoods.rowalikes import parting_prime, row_primes, rows_alike

FF = ("f", F, F)
G = ("f", S, ())


class RowAlikesTest(unittest.TestCase):
    def test_examples(self):
        self.assertEqual([
            row_primes((("s", F), (), S)), rows_alike((F, S), (W,)), rows_alike((F,) * 12, (FF,) * 6),
            parting_prime((F, S), (S, F)), parting_prime((F,), (F, S)), parting_prime((), ((),)),
        ], [(("s", ()), ("f", (), ()), ("s", ())), True, True, 0, 1, None])

    def test_beside_what_is_drawn(self):
        rows = [row for many in range(4) for row in itertools.product((F, S, (), W, G), repeat=many)]
        drawn = [plainly_grown_by((), row) for row in rows]
        primes = [row_primes(row) for row in rows]
        for at, row in enumerate(rows):
            self.assertEqual(plainly_grown_by((), primes[at]), drawn[at])
            for mate in range(0, len(rows), 7):
                alike = drawn[at] == drawn[mate]
                self.assertIs(rows_alike(row, rows[mate]), alike)
                self.assertEqual(primes[at] == primes[mate], alike)
                self.assertEqual(parting_prime(row, rows[mate]), plain_parting(primes[at], primes[mate]))

    def test_rows_of_small_bushes(self):
        for bush in small_bushes(2):
            self.assertIs(rows_alike((bush,), (bush, ())), True)
            self.assertIsNone(parting_prime((bush, bush), (plainly_grown_by(bush, (bush,)),)))
            self.assertEqual(parting_prime((bush,), (bush, D)), len(row_primes((bush,))))

    def test_rows_that_can_not_be_drawn(self):
        big = wide(400)
        self.assertEqual(row_primes((big,) * 12), (big,) * 12)
        self.assertEqual(row_primes((chain(60),) * 12), (S,) * 720)
        self.assertEqual(parting_prime((chain(60),) * 12, (chain(60),) * 11 + (chain(59),)), 719)
        self.assertEqual(parting_prime((chain(60),) * 11 + (chain(59),), (chain(60),) * 12), 719)
        self.assertEqual(parting_prime((big,) * 12, (big,) * 11 + (F,)), 11)
        self.assertIs(rows_alike((F,) * 12, (FF,) * 5 + (F,)), False)
        self.assertIs(rows_alike((F,) * 11, (FF,) * 5 + (F,)), True)
        self.assertIs(rows_alike((big,) * 12, (big,) * 12), True)

    def test_no_growths(self):
        self.assertEqual([row_primes(()), row_primes(((),) * 12), rows_alike((), ((),) * 12), parting_prime((), (S,)),
                          parting_prime((S,), ()), parting_prime((), ())], [(), (), True, 0, 0, None])


def plain_parting(primes, mates):
    for at, (prime, mate) in enumerate(itertools.zip_longest(primes, mates)):
        if prime != mate:
            return at
    return None
