"""[57]: powers, roots and bushes that exchange; with [3], [17], and [42] for TooMany."""

import unittest

from tests.samples import (
    D, F, S, W, chain, doubled, letters, no_numbers, plainly_grown, plainly_grown_by, raised_by, small_bushes, wide,
)
from tipwoods.errors import InvalidNumber, TooMany
from tipwoods.powers import common_root, do_exchange, power_of, root_of
from tipwoods.primes import primes_of

FF = ("f", F, F)
FEW = list(dict.fromkeys(small_bushes(3)[::5] + small_bushes(2) + [F, S, W, D, FF, ("s", F), chain(4), chain(6)]))


class ExchangeTest(unittest.TestCase):
    def test_examples(self):
        self.assertEqual([
            do_exchange(F, S), do_exchange(FF, F), do_exchange((), F), root_of(FF) == (F, 2), root_of(S), root_of(()),
            power_of(S, 3), power_of(F, 0),
        ], [False, True, True, True, (("s", ()), 1), None, ("s", ("s", ("s", ()))), ()])
        self.assertEqual([
            common_root(power_of(S, 4), power_of(S, 6)), common_root(F, S), common_root((), S), common_root((), ()),
        ], [("s", ("s", ())), None, ("s", ()), ()])

    def test_beside_both_ways_to_grow(self):
        for bush in FEW:
            for other in FEW:
                both = plainly_grown(bush, other) == plainly_grown(other, bush)
                self.assertIs(do_exchange(bush, other), both)

    def test_bushes_exchange_if_and_only_if_they_are_powers_of_one(self):
        for bush in FEW:
            for other in FEW:
                self.assertIs(common_root(bush, other) is not None, do_exchange(bush, other))

    def test_bushes_that_can_not_be_drawn_together(self):
        big = wide(400)
        self.assertIs(do_exchange(big, big), True)
        self.assertIs(do_exchange(big, wide(399)), False)
        self.assertIs(do_exchange(doubled(7), doubled(6)), True)
        self.assertIs(do_exchange(chain(60), chain(59)), True)
        self.assertIs(do_exchange(chain(60), chain(59, "t")), False)
        # The same primes, but not in the same order.
        self.assertIs(do_exchange(letters("aab"), letters("aba")), False)
        self.assertIs(do_exchange(letters("ab" * 3), letters("ab" * 2)), True)
        self.assertIs(do_exchange(letters("ab" * 3), letters("ab" * 2 + "a")), False)


class RootTest(unittest.TestCase):
    def test_roots_of_powers(self):
        for root in (F, S, W, D, ("s", F), letters("aab"), letters("abaab"), letters("abcabd")):
            bush, times = root, 1
            while times <= 6 and len(str(bush)) < 2000:
                self.assertEqual(root_of(bush), (root, times))
                bush, times = plainly_grown(bush, root), times + 1

    def test_the_root_has_the_fewest_primes(self):
        for bush in FEW:
            primes = primes_of(bush)
            found = [many for many in range(1, len(primes) + 1)
                     if len(primes) % many == 0 and primes == primes[:many] * (len(primes) // many)]
            if not bush:
                self.assertIsNone(root_of(bush))
            else:
                root, times = root_of(bush)
                self.assertEqual((root, times), (plainly_grown_by((), primes[:found[0]]), len(primes) // found[0]))

    def test_words_that_come_again_in_part(self):
        for word, root in (("abaab", "abaab"), ("abab", "ab"), ("aba", "aba"), ("aabaab", "aab"),
                           ("aabaaab", "aabaaab"),
                           ("a" * 60, "a"), ("ab" * 30, "ab"), ("a" * 59 + "b", "a" * 59 + "b"), ("abc" * 20, "abc")):
            self.assertEqual(root_of(letters(word)), (letters(root), len(word) // len(root)))

    def test_common_roots_beside_all_powers(self):
        for root in (F, S, ("s", F), letters("ab")):
            powers = [()]
            for _ in range(6):
                powers.append(plainly_grown(powers[-1], root))
            for first in range(1, 7):
                for second in range(1, 7):
                    found = common_root(powers[first], powers[second])
                    shared = [many for many in range(1, 7) if first % many == 0 and second % many == 0]
                    self.assertEqual(found, powers[max(shared)])
        for bush in FEW:
            self.assertEqual([common_root(bush, ()), common_root((), bush), common_root(bush, bush)], [bush] * 3)

    def test_no_common_root(self):
        pairs = ((F, S), (letters("ab"), letters("ba")), (letters("aab"), letters("ab")), (D, F), (chain(2), W))
        for bush, other in pairs:
            self.assertIsNone(common_root(bush, other))
            self.assertIsNone(common_root(other, bush))


class PowerTest(unittest.TestCase):
    def assert_too_many(self, limit, bush, times):
        error = raised_by(power_of, bush, times)
        self.assertEqual((type(error), getattr(error, "limit", None)), (TooMany, limit))

    def test_powers_year_by_year(self):
        for bush in FEW:
            power = ()
            for times in range(4):
                if len(str(power)) < 1500:
                    self.assertEqual(power_of(bush, times), power)
                power = plainly_grown(power, bush)

    def test_times(self):
        self.assertEqual([power_of((), times) for times in (0, 1, 60)], [(), (), ()])
        self.assertEqual([power_of(S, 0), power_of(S, 1), power_of(S, 60)], [(), S, chain(60)])
        self.assertEqual(power_of(wide(400), 1), wide(400))
        for times in no_numbers(0, 60):
            for bush in ((), S, wide(400)):
                self.assertIs(type(raised_by(power_of, bush, times)), InvalidNumber, times)

    def test_powers_that_can_not_be_drawn(self):
        self.assert_too_many(400, F, 8)
        self.assert_too_many(400, F, 60)
        self.assert_too_many(400, wide(400), 2)
        self.assert_too_many(400, wide(400), 60)
        self.assertEqual(power_of(F, 7), plainly_grown(power_of(FF, 3), F))
        self.assert_too_many(60, chain(2), 31)
        self.assertEqual(power_of(chain(2), 30), chain(60))
        self.assert_too_many(60, chain(31), 2)
        self.assert_too_many(60, chain(60), 2)
        # Both limits are passed: that of the parts is told.
        self.assert_too_many(400, ("f", chain(30), ()), 60)
        self.assert_too_many(400, ("f", (), chain(59)), 60)
