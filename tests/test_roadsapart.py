"""[68]: rows told apart by words, letters and depths; with [3], [25]."""

import itertools
import unittest

from tests.samples import D, F, S, W, chain, doubled, plainly_grown_by, raised_by, roads_of, wide
from tipwoods.errors import TooMany
from tipwoods.roadsapart import depth_apart, letters_apart, word_apart
from tipwoods.roadwords import depths_of, road_letters_of, words_of

G = ("f", S, ())
FEW = [F, S, G, D, (), W, ("f", ("s", (), ())), ("s", F), ("f", (), S), ("b", ("a", ()), ("c", ("a", ()), ()))]
ROWS = [row for many in range(3) for row in itertools.product(FEW, repeat=many)]


def plain_words(row):
    parts = roads_of(plainly_grown_by((), row))
    return ["".join(parts[road[:size]][0] for size in range(len(road))) for road, part in parts.items() if not part]


def plain_apart(words, others):
    unlike = [word for word in {*words, *others} if words.count(word) != others.count(word)]
    return min(unlike, key=lambda word: (len(word), word), default=None)


class ApartTest(unittest.TestCase):
    def test_examples(self):
        self.assertEqual([
            word_apart((F, S), (S, F)), letters_apart((F, S), (S, F)), depth_apart((S,), (F,)),
            word_apart((W,), (("f", ("s", (), ())),)), depth_apart((F, S), (F,)),
        ], ["fs", None, 1, None, 1])

    def test_beside_drawn_bushes(self):
        words = [plain_words(row) for row in ROWS]
        letters = [["".join(sorted(word)) for word in told] for told in words]
        depths = [[len(word) for word in told] for told in words]
        for at, row in enumerate(ROWS):
            for mate in range(at % 4, len(ROWS), 4):
                other = ROWS[mate]
                self.assertEqual(word_apart(row, other), plain_apart(words[at], words[mate]))
                self.assertEqual(letters_apart(row, other), plain_apart(letters[at], letters[mate]))
                unlike = [depth for depth in range(99) if depths[at].count(depth) != depths[mate].count(depth)]
                self.assertEqual(depth_apart(row, other), min(unlike, default=None))

    def test_alike_by_words_is_alike_by_letters_and_so_by_depths(self):
        for row, other in itertools.product(ROWS[::2], ROWS[::3]):
            alike = [word_apart(row, other) is None, letters_apart(row, other) is None, depth_apart(row, other) is None]
            self.assertEqual(alike, sorted(alike))
            self.assertEqual(alike, [words_of(row) == words_of(other), road_letters_of(row) == road_letters_of(other),
                                     depths_of(row) == depths_of(other)])
            if plainly_grown_by((), row) == plainly_grown_by((), other):
                self.assertEqual(alike, [True] * 3)

    def test_orders_of_a_row_are_alike_by_letters(self):
        for row in ((F, S, G), (D, W, ("s", F)), (wide(400), F, S), (chain(60), F, wide(300), D)):
            for order in itertools.permutations(row):
                self.assertIsNone(letters_apart(row, order))
                self.assertIsNone(depth_apart(row, order))

    def test_the_shorter_one_is_lesser(self):
        self.assertEqual(word_apart((("z", ()),), (("a", ("a", ())),)), "z")
        self.assertEqual(letters_apart((("z", ()),), (("a", ("a", ())),)), "z")
        self.assertEqual(word_apart((("a", ("a", ()), ("b", ())),), (("a", ("b", ()), ("c", ())),)), "aa")
        self.assertEqual(word_apart((("a", ("b", ()), ("b", ())),), (("a", ("b", ()), ("c", ())),)), "ab")
        self.assertEqual(letters_apart((("b", ("a", ()), ("b", ())),), (("a", ("b", ()), ("c", ())),)), "ac")
        self.assertEqual(word_apart((("b", ("a", ()), ("b", ())),), (("a", ("b", ()), ("c", ())),)), "ab")

    def test_the_tip(self):
        for function in (word_apart, letters_apart):
            self.assertEqual([function((), ()), function((), (F,)), function((F,), ((),))], [None, "", ""])
        self.assertEqual([depth_apart((), ()), depth_apart((), (F,)), depth_apart((F,), ((),))], [None, 0, 0])

    def test_one_row_goes_on_behind_the_other_one(self):
        self.assertEqual(depth_apart((("f", (), S),), (F,)), 1)
        self.assertEqual(depth_apart((("f", (), S),), (S,)), 2)
        self.assertEqual(depth_apart((S,), (("f", (), S),)), 2)
        self.assertEqual(word_apart((("s", (), S),), (S,)), "ss")
        self.assertEqual(letters_apart((S,), (("s", (), S),)), "ss")

    def test_rows_that_can_not_be_drawn(self):
        self.assertEqual(word_apart((chain(60),) * 12, (chain(60),) * 11 + (chain(59),)), "s" * 719)
        self.assertEqual(depth_apart((chain(60),) * 12, (chain(60),) * 11 + (chain(59),)), 719)
        self.assertEqual(letters_apart((F,) * 12, (F,) * 11 + (S,)), "f" * 12)
        self.assertEqual(letters_apart((F,) * 12, (F,) * 11 + (("a", (), ()),)), "a" + "f" * 11)
        self.assertIsNone(word_apart((doubled(7), doubled(3)), (doubled(5), doubled(5))))
        self.assertEqual(word_apart((doubled(7),) * 12, (doubled(7),) * 11 + (doubled(6),)), "d" * 83)
        self.assertEqual(depth_apart((wide(400),) * 12, (wide(400),) * 12), None)


class TooManyTest(unittest.TestCase):
    def test_the_first_row_and_then_the_second_one(self):
        many = ("a", *[(letter, (), ("b", ())) for letter in "bcdefg"])
        great = (many,) * 12
        for function in (word_apart, letters_apart):
            for rows in ((great, ()), ((), great), (great, great), ((F,), great)):
                error = raised_by(function, *rows)
                self.assertEqual((type(error), error.limit), (TooMany, 2000))
        self.assertIsNone(depth_apart(great, great))
        both = ("a", ("a", ()), ("b", ()))
        self.assertEqual(raised_by(word_apart, (both,) * 11, ()).limit, 2000)
        self.assertEqual(raised_by(word_apart, (), (both,) * 11).limit, 2000)
        self.assertIsNone(raised_by(word_apart, (both,) * 10, ()))
        self.assertIsNone(letters_apart((both,) * 12, (both,) * 12))
