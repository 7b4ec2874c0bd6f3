"""[60]: bunches, their left overs, two ways and bases; with [3], [19], [20]."""

import itertools
import random
import unittest

from tests.samples import D, F, NO_BUNCHES, ODD_VALUES, S, W, chain, doubled, letters, plainly_grown_by, wide
from tipwoods.bunches import base_of, is_bunch, left_overs, two_ways
from tipwoods.bunchways import count_ways
from tipwoods.powers import do_exchange
from tipwoods.primes import primes_of

FF = ("f", F, F)
SF = ("s", F)
WORDS = ["".join(word) for many in range(1, 4) for word in itertools.product("ab", repeat=many)]


def bunch_of(words):
    return tuple(letters(word) for word in words)


def word_of(primes):
    return "".join(prime[0] for prime in primes)


def plain_left_overs(words):
    """The left overs of words, told again and again until no new one comes."""
    found = {word[len(mate):] for word in words for mate in words if word != mate and word.startswith(mate)}
    while True:
        more = {word[len(rest):] for word in words for rest in found if rest and word.startswith(rest)}
        more |= {rest[len(word):] for word in words for rest in found if rest and rest.startswith(word)}
        if more <= found:
            return sorted(found)
        found |= more


def has_short_double(words, most):
    """Whether two unlike ways of at most so many indices have the same letters."""
    seen = set()
    for size in range(1, most + 1):
        for way in itertools.product(words, repeat=size):
            text = "".join(way)
            if text in seen:
                return True
            seen.add(text)
    return False


def is_made_of(word, words):
    return word == "" or any(word.startswith(part) and is_made_of(word[len(part):], words) for part in words)


class IsBunchTest(unittest.TestCase):
    def test_examples(self):
        self.assertEqual([
            is_bunch((F, S)), is_bunch((F, F)), is_bunch(((),)), two_ways((F, S)), left_overs((F, FF)) == [(), (F,)],
            base_of((FF, plainly_grown_by((), [F] * 3))) == (F,),
        ], [True, False, False, None, True, True])
        self.assertEqual(base_of((F, W, SF)) == (F, S), True)

    def test_bunches(self):
        for value in ((F,), (F, S), (S, F), (wide(400),), (chain(60), F), tuple(chain(knots) for knots in range(1, 7))):
            self.assertIs(is_bunch(value), True)

    def test_wrong_values(self):
        for value in NO_BUNCHES + ODD_VALUES:
            self.assertIs(is_bunch(value), False, value)
            if value not in (F, S, D):
                self.assertIs(is_bunch((value,)), False)
                self.assertIs(is_bunch((S, value)), False)

    def test_one_to_six_bushes(self):
        for many in range(8):
            self.assertIs(is_bunch(tuple(chain(knots) for knots in range(1, many + 1))), 1 <= many <= 6)


class LeftOversTest(unittest.TestCase):
    def assert_bunch(self, words):
        bunch = bunch_of(words)
        rests = left_overs(bunch)
        self.assertEqual(rests, sorted(rests))
        self.assertEqual([word_of(rest) for rest in rests], plain_left_overs(words))
        ways = two_ways(bunch)
        self.assertEqual(ways is not None, () in rests)
        if ways is not None:
            self.assert_ways(bunch, ways)
        return ways

    def assert_ways(self, bunch, ways):
        self.assertEqual((type(ways), len(ways)), (tuple, 2))
        self.assertNotEqual(ways[0], ways[1])
        told = []
        for way in ways:
            self.assertIs(type(way), tuple)
            self.assertTrue(1 <= len(way) <= 400)
            self.assertTrue(all(type(index) is int and 0 <= index < len(bunch) for index in way))
            told.append(tuple(prime for index in way for prime in primes_of(bunch[index])))
        self.assertEqual(told[0], told[1])

    def test_all_bunches_of_short_words(self):
        for many in (1, 2, 3):
            for words in itertools.combinations(WORDS, many):
                ways = self.assert_bunch(words)
                if many < 3 or words[0] == "a":
                    self.assertEqual(ways is not None, has_short_double(words, 4) or has_short_double(words, 6))

    def test_tangled_if_and_only_if_two_exchange(self):
        bushes = [F, S, W, SF, FF, D, letters("ab"), letters("abab"), letters("aba")]
        for bush, other in itertools.permutations(bushes, 2):
            self.assertEqual(two_ways((bush, other)) is not None, do_exchange(bush, other))
            self.assertEqual(() in left_overs((bush, other)), do_exchange(bush, other))

    def test_bunches_of_four_to_six_words(self):
        chance = random.Random(4)
        for _ in range(300):
            many = chance.randrange(4, 7)
            words = set()
            while len(words) < many:
                words.add("".join(chance.choice("ab") for _ in range(chance.randrange(1, 8))))
            self.assert_bunch(sorted(words, key=lambda word: chance.random()))

    def test_one_bush(self):
        for bush in (F, S, FF, wide(400), chain(60)):
            self.assertEqual([left_overs((bush,)), two_ways((bush,)), base_of((bush,))], [[], None, (bush,)])

    def test_bushes_of_more_than_chains(self):
        bunch = (F, plainly_grown_by((), [F, S, D]), plainly_grown_by((), [S, D]), D)
        self.assertEqual(left_overs(bunch), sorted([(S, D), ()]))
        self.assert_ways(bunch, two_ways(bunch))
        self.assertEqual(base_of(bunch), tuple(sorted([F, D, plainly_grown_by((), [S, D])])))

    def test_left_overs_stand_in_the_order_of_their_primes(self):
        bunch = tuple(plainly_grown_by((), row) for row in ((F, S, S), (S,), (F, F), (F, S), (F, F, F)))
        self.assertEqual(left_overs(bunch), [(), (F,), (F, F), (S,), (S, S)])

    def test_long_words(self):
        for words in (
            ["a" * 60, "a" * 59], ["a" * many for many in range(55, 61)],
            ["ab" * 30, "ab" * 29 + "a", "b" + "ab" * 29],
            ["a" * 59 + "b", "a" * 58 + "b", "a", "b" * 60],
            ["a" * 31, "a" * 37, "a" * 41, "a" * 43, "a" * 47, "a" * 53],
            ["a" * 53, "a" * 59],
        ):
            self.assert_bunch(words)

    def test_long_ways(self):
        # The left overs become shorter, or longer, by few letters a step.
        ways = self.assert_bunch(["a" * 59, "a" * 60])
        self.assertEqual({len(way) for way in ways}, {2})
        for words, most in (
            (["a", "b" + "a" * 50, "baaaaa"], 40),
            (["a" * 51, "b", "b" + "a" * 19 + "b", "b" * 51 + "a", "a" + "b" * 14], 50),
            (["a" + "b" * 42, "a", "abbbbbb", "bba", "b" + "a" * 54, "a" * 35 + "b"], 80),
        ):
            ways = self.assert_bunch(words)
            self.assertGreater(max(map(len, ways)), most)


class BaseTest(unittest.TestCase):
    def assert_base(self, words):
        base = base_of(bunch_of(words))
        self.assertIs(is_bunch(base), True)
        self.assertEqual(list(base), sorted(base))
        self.assertIsNone(two_ways(base))
        self.assertLessEqual(len(base), len(words))
        for bush in bunch_of(words):
            self.assertGreater(count_ways(base, bush), 0)
        if two_ways(bunch_of(words)) is None:
            self.assertEqual(base, tuple(sorted(bunch_of(words))))
        return [word_of(primes_of(bush)) for bush in base]

    def test_each_other_such_bunch_makes_the_base(self):
        codes = [words for many in (1, 2, 3) for words in itertools.combinations(WORDS, many)
                 if "" not in plain_left_overs(words)]
        for many in (1, 2, 3):
            for words in itertools.combinations(WORDS, many):
                base = self.assert_base(words)
                for code in codes:
                    if all(is_made_of(word, code) for word in words):
                        self.assertTrue(all(is_made_of(word, code) for word in base), (words, base, code))

    def test_some_bases(self):
        for words, base in (
            (["aa", "aaa"], ["a"]), (["a" * 12, "a" * 18], ["a" * 6]), (["a", "ab", "ba"], ["a", "b"]),
            (["ab", "abab"], ["ab"]), (["a" * 59, "a" * 60], ["a"]), (["a", "abb", "bba"], ["a", "bb"]),
            (["ab", "ba", "aba"], ["a", "b"]), (["abc", "ab", "ca", "cab"], ["ab", "c", "ca"]),
            (["a", "b"], ["a", "b"]),
            (["a" * many for many in (30, 42, 60, 48, 54, 36)], ["a" * 6]), (["b", "a", "ab"], ["a", "b"]),
        ):
            self.assertEqual(sorted(self.assert_base(words)), sorted(base), words)

    def test_random_bunches(self):
        chance = random.Random(9)
        for _ in range(200):
            parts = ["a", "ab", "bb", "abb"][: chance.randrange(1, 5)]
            words = {"".join(chance.choice(parts) for _ in range(chance.randrange(1, 9))) for _ in range(6)}
            self.assert_base(sorted(words))

    def test_bases_with_many_steps(self):
        for words in (["a" * many for many in range(55, 61)], ["ab" * 30, "ab" * 29 + "a", "b" + "ab" * 29],
                      ["aab" * 20, "aab" * 19, "baa" * 19 + "b"], ["a" * 60, "a" * 59 + "b", "b"]):
            self.assert_base(words)

    def test_the_order_of_the_bunch_counts_for_nothing(self):
        for words in itertools.permutations(["a", "abb", "bba", "ab"]):
            self.assertEqual(self.assert_base(list(words)), ["a", "ab", "bb"])

    def test_bases_of_great_bushes(self):
        self.assertEqual(base_of((doubled(7), doubled(5))), (("d", (), ()),))
        self.assertEqual(base_of((wide(400), wide(399))), tuple(sorted([wide(400), wide(399)])))
        self.assertEqual(base_of((W, F)), tuple(sorted((W, F))))
        self.assertEqual(base_of((W, F, S)), (F, S))
