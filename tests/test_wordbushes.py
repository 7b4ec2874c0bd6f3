"""[70]: counts by words, and the bushes that have them; with [4], [25], [26]."""

import random
import unittest

from tests.samples import F, NO_WORDS, ODD_VALUES, S, W, chain, count_parts, raised_by, small_bushes
from tipwoods.bushes import is_bush, knots_of
from tipwoods.depthbushes import can_have_depths, fewest_by_depths
from tipwoods.errors import InvalidWords, TooMany
from tipwoods.roadwords import depths_of, words_of
from tipwoods.wordbushes import bush_by_words, can_have_words, fewest_by_words

ALL_KINDS = tuple((letter, many) for letter in "ab" for many in range(1, 7))


def parts_and_knots(words, word=""):
    """The fewest parts that stand at the ends of the roads with a word, and the fewest knots there and below."""
    parts = sum(number for other, number in words if other == word)
    knots = 0
    for letter in sorted({other[len(word)] for other, _ in words if other.startswith(word) and other != word}):
        below, inside = parts_and_knots(words, word + letter)
        parts += -(-below // 6)
        knots += -(-below // 6) + inside
    return parts, knots


def by_chance(chance):
    words = {"".join(chance.choice("ab") for _ in range(chance.randrange(1, 7))) for _ in range(chance.randrange(1, 9))}
    first = chance.choice("aab")
    words = {first + word[1:] if chance.random() < 0.9 else word for word in words}
    return tuple((word, chance.choice((1, 1, 2, 5, 6, 7, 36, 37))) for word in sorted(words))


class WordsTest(unittest.TestCase):
    def test_examples(self):
        self.assertEqual([
            can_have_words((("ab", 1), ("b", 1))), can_have_words((("a", 1), ("ab", 6))), fewest_by_words((("aa", 7),)),
            fewest_by_words((("", 1),)),
        ], [False, True, 3, 0])
        self.assertIn(bush_by_words((("ab", 2),)), (("a", ("b", (), ())), ("a", ("b", ()), ("b", ()))))

    def test_beside_all_bushes_of_few_knots(self):
        found = {}
        for bush in small_bushes(3, ALL_KINDS):
            words = words_of((bush,))
            found[words] = min(knots_of(bush), found.get(words, 9))
        for words, knots in found.items():
            self.assertEqual(fewest_by_words(words), knots, words)
            self.assertIs(can_have_words(words), True)
            bush = bush_by_words(words)
            self.assertEqual((words_of((bush,)), is_bush(bush)), (words, True))
        words = [(("a", 1),), (("a", 7),), (("a", 1), ("b", 1)), (("", 1), ("a", 1)), (("aa", 6), ("ab", 6)),
                 (("", 2),),
                 (("a", 5), ("ab", 7)), (("a", 6), ("ab", 1)), (("aa", 36),), (("aa", 37),), (("ab", 18), ("aba", 1))]
        for counts in words:
            knots = fewest_by_words(counts)
            self.assertEqual(knots if knots is not None and knots <= 3 else None, found.get(counts), counts)

    def test_by_chance_beside_the_fewest_parts_below_each_word(self):
        chance = random.Random(8)
        told = []
        for _ in range(3000):
            words = by_chance(chance)
            parts, knots = parts_and_knots(words)
            told.append(parts == 1)
            self.assertIs(can_have_words(words), parts == 1, words)
            self.assertEqual(fewest_by_words(words), knots if parts == 1 else None, words)
            if parts == 1:
                bush = bush_by_words(words)
                self.assertEqual((words_of((bush,)), is_bush(bush)), (words, True))
            else:
                self.assertIsNone(bush_by_words(words))
        self.assertGreater(min(told.count(True), told.count(False)), 500)

    def test_words_of_one_letter_are_depths(self):
        chance = random.Random(2)
        for _ in range(300):
            counts = tuple(chance.choice((0, 0, 1, 5, 6, 7, 30))
                           for _ in range(chance.randrange(5))) + (chance.choice((1, 6, 20)),)
            words = tuple(("q" * depth, many) for depth, many in enumerate(counts) if many)
            self.assertIs(can_have_words(words), can_have_depths(counts))
            self.assertEqual(fewest_by_words(words), fewest_by_depths(counts))

    def test_words_of_no_letter(self):
        self.assertEqual([can_have_words((("", 1),)), fewest_by_words((("", 1),)), bush_by_words((("", 1),))],
                         [True, 0, ()])
        for words in ((("", 2),), (("", 10 ** 18),), (("", 1), ("a", 1)), (("", 1), ("a" * 60, 1))):
            self.assertEqual([can_have_words(words), fewest_by_words(words), bush_by_words(words)], [False, None, None])

    def test_words_of_60_letters_and_great_numbers(self):
        word = "abcdef" * 10
        self.assertEqual(words_of((bush_by_words(((word, 1),)),)), ((word, 1),))
        self.assertEqual(fewest_by_words(((word, 1),)), 60)
        self.assertEqual(bush_by_words((("s" * 60, 1),)), chain(60))
        self.assertEqual(fewest_by_words(((word, 10 ** 18),)), sum(-(-10 ** 18 // 6 ** at) for at in range(1, 61)))
        self.assertEqual(raised_by(bush_by_words, ((word, 10 ** 18),)).limit, 400)
        self.assertEqual([can_have_words(((word[:size], 10 ** 18),)) for size in (22, 23, 24)], [False, False, True])
        # Both letters at the root leave no bush, however few tips there are.
        self.assertIs(can_have_words((("a" + "x" * 59, 1), ("b" + "x" * 59, 1))), False)
        self.assertIs(can_have_words((("a" + "x" * 59, 1), ("a" + "y" * 59, 1))), True)

    def test_400_parts_and_one_more(self):
        words = [("a" + first + second, 6) for first in "bcdefg" for second in "hijklm"]
        # 1, 6 and 36 knots with 216 tips; one more tip at one of these words takes a knot more.
        self.assertEqual(fewest_by_words(tuple(words)), 43)
        self.assertEqual(count_parts(bush_by_words(tuple(words))), 259)
        long = "b" * 59
        for tips in range(270, 300):
            # A chain of knots, from the root on, above as few knots as can be.
            counts = (("a" + long, tips),)
            parts = fewest_by_words(counts) + tips
            if parts <= 400:
                bush = bush_by_words(counts)
                self.assertEqual((count_parts(bush), words_of((bush,)), is_bush(bush)), (parts, counts, True))
            else:
                error = raised_by(bush_by_words, counts)
                self.assertEqual((type(error), error.limit), (TooMany, 400))
        self.assertEqual({fewest_by_words((("a" + long, tips),)) + tips for tips in range(270, 300)} & {400, 401},
                         {400, 401})

    def test_200_words(self):
        words = tuple(sorted(("a" + first + second, 1) for first in "bcdefgh"
                             for second in "abcdefghijklmnopqrstuvwxyz"))
        self.assertEqual(len(words), 182)
        # 26 parts below each of seven letters need five knots each, 35 in all, and these six at the root.
        self.assertIs(can_have_words(words), False)
        words = tuple(sorted(("aa" + first + second, 1) for first in "bcdefg"
                             for second in "abcdefghijklmnopqrstuvwxyz"))
        self.assertIs(can_have_words(words), True)
        words = tuple(sorted(("aaa" + first + second, 1) for first in "bcdefghi"
                             for second in "klmnopqrstuvwxyzabcdefghi"))
        self.assertEqual((len(words), can_have_words(words)), (200, True))
        self.assertEqual(words_of((bush_by_words(words[:150]),)), words[:150])
        self.assertEqual(fewest_by_words(words), parts_and_knots(words)[1])

    def test_words_of_bushes(self):
        for bush in (F, S, W, ("f", F, S), chain(60), ("a", ("b", ()), ("b", ()))):
            words = words_of((bush,))
            self.assertLessEqual(fewest_by_words(words), knots_of(bush))
            self.assertEqual(depths_of((bush_by_words(words),)), depths_of((bush,)))

    def test_wrong_words(self):
        for wrong in NO_WORDS + ODD_VALUES:
            for function in (can_have_words, fewest_by_words, bush_by_words):
                self.assertIs(type(raised_by(function, wrong)), InvalidWords, wrong)
        for right in ((("", 1),), (("z" * 60, 10 ** 18),), (("", 1), ("a", 1), ("aa", 1), ("b", 1))):
            self.assertIsNone(raised_by(can_have_words, right))
