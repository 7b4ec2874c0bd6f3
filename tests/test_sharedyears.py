"""[59]: what two bushes share at first and at last, and what stands between two; with [11], [12], [18]."""

import unittest

from tests.samples import D, F, S, W, chain, doubled, letters, plainly_grown, small_bushes, wide
from tipwoods.cuts import cuts_of
from tipwoods.primes import primes_of
from tipwoods.sharedyears import put_between, shared_first, shared_last

SF = ("s", F)
MANY = list(dict.fromkeys(
    small_bushes(3)[::4] + small_bushes(1) + [F, S, W, D, SF, ("f", F, F), plainly_grown(W, S), plainly_grown(SF, S)]
))


def most_primes(bushes):
    return max(bushes, key=lambda bush: len(primes_of(bush)))


class SharedTest(unittest.TestCase):
    def test_examples(self):
        sfsf = ("f", SF, SF)
        self.assertEqual([
            shared_first(SF, ("s", S)), shared_last(SF, ("f", F, F)), shared_first(F, S), put_between(sfsf, F, F),
            put_between(F, F, F), put_between(F, F, ()),
        ], [("s", ()), ("f", (), ()), (), ("s", ()), None, ()])

    def test_beside_all_cuts(self):
        for bush in MANY:
            uppers = [upper for upper, _ in cuts_of(bush)]
            lowers = [lower for _, lower in cuts_of(bush)]
            for other in MANY:
                first = [upper for upper, _ in cuts_of(other) if upper in uppers]
                last = [lower for _, lower in cuts_of(other) if lower in lowers]
                self.assertEqual(shared_first(bush, other), most_primes(first))
                self.assertEqual(shared_last(bush, other), most_primes(last))

    def test_words(self):
        for first, second, head, tail in (
            ("abab", "abba", "ab", ""), ("aab", "bab", "", "ab"), ("a" * 60, "a" * 59, "a" * 59, "a" * 59),
            ("", "ab", "", ""), ("ab", "ab", "ab", "ab"), ("abcab", "abab", "ab", "ab"), ("ab", "cab", "", "ab"),
            ("aba", "abaaba", "aba", "aba"), ("b" + "a" * 59, "a" * 60, "", "a" * 59),
            ("a" * 59 + "b", "a" * 60, "a" * 59, ""),
        ):
            for one, other in ((first, second), (second, first)):
                self.assertEqual(shared_first(letters(one), letters(other)), letters(head))
                self.assertEqual(shared_last(letters(one), letters(other)), letters(tail))

    def test_the_greatest_ones(self):
        self.assertEqual(shared_first(wide(400), wide(400)), wide(400))
        self.assertEqual(shared_last(wide(400), wide(399)), ())
        self.assertEqual([shared_first(doubled(7), doubled(5)), shared_last(doubled(7), doubled(5))], [doubled(5)] * 2)
        self.assertEqual([shared_first((), ()), shared_last((), ())], [(), ()])


class BetweenTest(unittest.TestCase):
    def test_beside_all_that_stands_between(self):
        few = [(), F, S, W, SF, ("a", ()), ("b", (), ())]
        for bush in few + [D, plainly_grown(W, S), plainly_grown(SF, SF), plainly_grown(W, F), ("a", ("b", (), ()))]:
            for upper in few:
                for lower in few:
                    found = [between for between in few + [bush, plainly_grown(F, S), plainly_grown(S, S), ("f", F, F)]
                             if plainly_grown(plainly_grown(upper, between), lower) == bush]
                    told = put_between(bush, upper, lower)
                    if found:
                        self.assertEqual(told, found[0])
                    elif told is not None:
                        self.assertEqual(plainly_grown(plainly_grown(upper, told), lower), bush)
                    primes, top, low = primes_of(bush), primes_of(upper), primes_of(lower)
                    fits = len(top) + len(low) <= len(primes) and primes[:len(top)] == top
                    fits = fits and primes[len(primes) - len(low):] == low
                    self.assertEqual(told is not None, fits)

    def test_upper_and_lower_do_not_overlap(self):
        self.assertIsNone(put_between(letters("aba"), letters("ab"), letters("ba")))
        self.assertEqual(put_between(letters("abba"), letters("ab"), letters("ba")), ())
        self.assertEqual(put_between(letters("abcba"), letters("ab"), letters("ba")), letters("c"))
        self.assertIsNone(put_between(letters("abcba"), letters("ba"), letters("ab")))
        self.assertIsNone(put_between(chain(5), chain(3), chain(3)))
        self.assertEqual(put_between(chain(60), chain(30), chain(30)), ())

    def test_tips(self):
        for bush in (F, W, D, wide(400)):
            self.assertEqual([put_between(bush, (), ()), put_between(bush, bush, ()), put_between(bush, (), bush)],
                             [bush, (), ()])
            told = [put_between((), bush, ()), put_between((), (), bush), put_between(bush, bush, bush)]
            self.assertEqual(told, [None] * 3)
        self.assertEqual(put_between((), (), ()), ())
