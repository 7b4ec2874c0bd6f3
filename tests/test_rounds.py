"""[58]: round bushes, and what leads one bush over to another one; with [3], [18]."""

import itertools
import unittest

from tests.samples import (
    D, F, S, W, chain, count_parts, doubled, letters, no_numbers, plainly_grown, plainly_grown_by, raised_by,
    small_bushes, wide,
)
from tipwoods.errors import InvalidNumber, NoKnot, TooMany
from tipwoods.primes import primes_of
from tipwoods.rounds import led_over, round_bushes, round_index

SF = ("s", F)
MORE = list(dict.fromkeys(small_bushes(3) + [F, S, W, D, SF, ("f", F, F), plainly_grown(W, S), plainly_grown(SF, S)]))


def plain_rounds(bush):
    """The list of all round bushes, led round by all indices, equal ones once."""
    primes = primes_of(bush)
    turned = [primes[index:] + primes[:index] for index in range(max(1, len(primes)))]
    return list(dict.fromkeys(plainly_grown_by((), row) for row in turned))


class RoundBushesTest(unittest.TestCase):
    def test_examples(self):
        self.assertEqual([
            round_bushes(W) == [W, SF], round_bushes(S), round_index(W, SF), round_index(F, S), round_index((), ()),
        ], [True, [("s", ())], 1, None, 0])
        self.assertEqual([led_over(W, SF, 3), led_over(F, F, 2) == [(), (F,), (F, F)], led_over(F, S, 60)],
                         [[(S,), (S, F, S)], True, []])

    def test_beside_all_indices(self):
        for bush in MORE + [letters(word) for word in ("abab", "aab", "abcabc", "abacab", "aaaa", "ab" * 30)]:
            rounds = plain_rounds(bush)
            self.assertEqual(round_bushes(bush), rounds)
            for index, other in enumerate(rounds):
                self.assertEqual(round_index(bush, other), index)

    def test_bushes_that_are_not_round(self):
        for bush in MORE[::3]:
            rounds = plain_rounds(bush)
            for other in MORE[::2]:
                self.assertEqual(round_index(bush, other), rounds.index(other) if other in rounds else None)
        self.assertIsNone(round_index(letters("aabb"), letters("abab")))
        self.assertEqual(round_index(letters("aabb"), letters("abba")), 1)
        self.assertEqual(round_index(letters("abb"), letters("bab")), 2)
        self.assertIsNone(round_index(letters("abb"), letters("bbab")))
        self.assertEqual([round_index((), S), round_index(S, ())], [None, None])

    def test_the_tip(self):
        self.assertEqual([round_bushes(()), round_index((), ())], [[()], 0])

    def test_round_bushes_of_four_hundred_parts(self):
        six = ("f",) + ((),) * 6
        told = []
        for parts in range(50, 75):
            # Six of these below make more parts than one above.
            bush = plainly_grown(("q", wide(parts), chain(3)), six)
            sizes = [count_parts(other) for other in plain_rounds(bush)]
            if sizes[0] <= 400:
                error = raised_by(round_bushes, bush)
                self.assertEqual((type(error), getattr(error, "limit", None)),
                                 (TooMany, 400) if max(sizes) > 400 else (type(None), None))
                told.append(error is None)
        self.assertEqual(sorted(set(told)), [False, True])

    def test_just_four_hundred_parts(self):
        # Below a knot of some tips, a bush of the parts comes as often as there are tips.
        for tips, parts in ((3, 133), (3, 134), (2, 199), (2, 200), (4, 99), (4, 100), (6, 66), (6, 67)):
            knot, other = ("t", *[()] * tips), four_tipped(parts)
            above, below = plainly_grown(knot, other), plainly_grown(other, knot)
            self.assertEqual([count_parts(above), count_parts(below)], [1 + tips * parts, parts + 4 * tips])
            if 1 + tips * parts <= 400:
                self.assertEqual(round_bushes(above), [above, below])
                self.assertEqual(round_bushes(below), [below, above])
            else:
                error = raised_by(round_bushes, below)
                self.assertEqual((type(error), error.limit), (TooMany, 400))
            self.assertEqual(round_index(below, below), 0)

    def test_the_greatest_ones(self):
        self.assertEqual(round_bushes(chain(60)), [chain(60)])
        self.assertEqual(round_bushes(doubled(7)), [doubled(7)])
        self.assertEqual(round_bushes(wide(400)), [wide(400)])
        word = "a" * 59 + "b"
        self.assertEqual(len(round_bushes(letters(word))), 60)
        self.assertEqual(round_index(letters(word), letters("b" + "a" * 59)), 59)
        # A round bush of this one has too many parts, but all that is asked of its primes is told.
        wide_last = plainly_grown(chain(30), doubled(7))
        self.assertEqual(raised_by(round_bushes, wide_last).limit, 400)
        self.assertEqual(round_index(wide_last, wide_last), 0)


def four_tipped(parts):
    """A prime bush with four tips and so many parts."""
    left = parts - 5
    return ("p", *[chain(left // 4 + (at < left % 4), letter) for at, letter in enumerate("wxyz")])


def plain_led_over(bush, other, many, signs):
    """All tuples of at most so many of some primes that lead a bush over to another one."""
    primes, mates = primes_of(bush), primes_of(other)
    rows = [row for size in range(many + 1) for row in itertools.product(signs, repeat=size)]
    return [row for row in rows if row + primes == mates + row]


class LedOverTest(unittest.TestCase):
    def test_beside_all_tuples_of_primes(self):
        bushes = [F, S, W, SF, ("f", F, F), plainly_grown(W, S), plainly_grown(S, W), plainly_grown(W, W), chain(3)]
        for bush in bushes:
            for other in bushes:
                for many in (0, 1, 4):
                    self.assertEqual(led_over(bush, other, many), plain_led_over(bush, other, many, (F, S, D)))

    def test_what_is_led_over_grown(self):
        for bush in MORE[1::4]:
            for other in MORE[1::5]:
                for primes in led_over(bush, other, 3):
                    middle = plainly_grown_by((), primes)
                    self.assertEqual(plainly_grown(middle, bush), plainly_grown(other, middle))

    def test_there_is_some_if_and_only_if_the_other_one_is_round(self):
        for bush in MORE[1::2]:
            for other in MORE[1::3]:
                self.assertEqual(led_over(bush, other, 60) != [], round_index(bush, other) is not None)

    def test_words(self):
        def led(first, second, many):
            found = led_over(letters(first), letters(second), many)
            return ["".join(prime[0] for prime in row) for row in found]
        self.assertEqual(led("aab", "aba", 60)[:4], ["ab", "abaab", "abaabaab", "abaabaabaab"])
        self.assertEqual(led("ab", "ab", 4), ["", "ab", "abab"])
        self.assertEqual(led("abab", "baba", 5), ["b", "bab", "babab"])
        self.assertEqual(led("a" * 60, "a" * 60, 60), ["a" * many for many in range(61)])
        self.assertEqual(led("ab", "ba", 60), ["ba" * many + "b" for many in range(30)])
        self.assertEqual(led("ab", "abab", 60), [])
        self.assertEqual(led("a" * 59 + "b", "b" + "a" * 59, 60), ["b"])
        self.assertEqual(led("b" + "a" * 59, "a" * 59 + "b", 60), ["a" * 59])
        self.assertEqual(led("b" + "a" * 59, "a" * 59 + "b", 58), [])

    def test_numbers_of_primes(self):
        for many in range(61):
            self.assertEqual(led_over(F, F, many), [(F,) * size for size in range(many + 1)])
            self.assertEqual(len(led_over(wide(400), wide(400), many)), many + 1)
        self.assertEqual([led_over(F, S, 0), led_over(F, F, 0)], [[], [()]])
        for many in no_numbers(0, 60):
            self.assertIs(type(raised_by(led_over, F, S, many)), InvalidNumber, many)

    def test_no_tips(self):
        for bush, other in (((), ()), ((), F), (F, ())):
            self.assertIs(type(raised_by(led_over, bush, other, 5)), NoKnot)
            self.assertIs(type(raised_by(led_over, bush, other, 61)), InvalidNumber)
            self.assertIs(type(raised_by(led_over, bush, other, -1)), InvalidNumber)
