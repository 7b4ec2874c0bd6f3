"""[61]: the ways of a bunch that have the primes of a bush; with [19]."""

import itertools
import unittest

from tests.samples import D, F, S, W, chain, letters, plainly_grown_by, wide
from tipwoods.bunchways import count_ways, least_way

FF = ("f", F, F)
WORDS = ["a", "b", "ab", "ba", "aa", "aba"]


def plain_ways(words, word):
    """All ways of words that make a word, fewer indices first; () for the empty one."""
    if word == "":
        return [()]
    found = [(index, *way) for index, part in enumerate(words) if word.startswith(part)
             for way in plain_ways(words, word[len(part):])]
    return sorted(found, key=lambda way: (len(way), way))


def power(bush, times):
    return plainly_grown_by((), [bush] * times)


class BunchWaysTest(unittest.TestCase):
    def test_examples(self):
        self.assertEqual([
            count_ways((F, FF), power(F, 4)), least_way((F, FF), power(F, 3)), count_ways((F,), S), least_way((F,), S),
            count_ways((F,), ()),
        ], [5, (0, 1), 0, None, 1])

    def test_beside_all_ways(self):
        targets = ["".join(word) for many in range(7) for word in itertools.product("ab", repeat=many)]
        for many in (1, 2, 3):
            for words in itertools.permutations(WORDS, many):
                bunch = tuple(letters(word) for word in words)
                for word in targets[:: 1 + 3 * many]:
                    ways = plain_ways(words, word)
                    self.assertEqual(count_ways(bunch, letters(word)), len(ways))
                    self.assertEqual(least_way(bunch, letters(word)), ways[0] if ways else None)

    def test_the_tip(self):
        for bunch in ((F,), (S, F), (wide(400),), tuple(chain(knots) for knots in range(1, 7))):
            self.assertEqual([count_ways(bunch, ()), least_way(bunch, ())], [1, ()])

    def test_fewer_indices_go_ahead_of_lesser_ones(self):
        self.assertEqual(least_way((letters("a"), letters("ab"), letters("b")), letters("ab")), (1,))
        self.assertEqual(least_way((letters("b"), letters("a"), letters("aba")), letters("aba")), (2,))
        self.assertEqual(least_way((letters("aa"), letters("a")), letters("aaa")), (0, 1))
        self.assertEqual(least_way((letters("a"), letters("aa")), letters("aaa")), (0, 1))
        bunch = (letters("aab"), letters("a"), letters("ab"), letters("aa"), letters("b"))
        self.assertEqual(least_way(bunch, letters("aab")), (0,))

    def test_the_greatest_ones(self):
        bunch = tuple(chain(knots) for knots in range(1, 7))
        counts = [1]
        for size in range(1, 61):
            counts.append(sum(counts[max(0, size - 6):]))
        self.assertEqual([count_ways(bunch, chain(size)) for size in (1, 6, 7, 30, 60)],
                         [counts[size] for size in (1, 6, 7, 30, 60)])
        self.assertEqual(least_way(bunch, chain(60)), (5,) * 10)
        self.assertEqual(least_way(bunch, chain(55)), (0,) + (5,) * 9)
        self.assertEqual(least_way((S,), chain(60)), (0,) * 60)
        self.assertEqual(count_ways((chain(2), chain(4)), chain(59)), 0)
        self.assertIsNone(least_way((chain(2), chain(4)), chain(59)))

    def test_bushes_of_more_than_chains(self):
        bunch = (W, S, F, D, FF)
        bush = plainly_grown_by((), [F, S, F, F])
        self.assertEqual([count_ways(bunch, bush), least_way(bunch, bush)], [4, (0, 4)])
        self.assertEqual([count_ways(bunch, chain(2)), count_ways((W,), W), count_ways((W,), F)], [1, 1, 0])
