"""[67]: words, letters and depths of rows; with [3], [7], [25], [27]."""

import itertools
import unittest

from tests.samples import D, F, S, W, chain, doubled, plainly_grown_by, raised_by, roads_of, small_bushes, wide
from tipwoods.errors import TooMany
from tipwoods.roadwords import depths_of, road_letters_of, words_of

G = ("f", S, ())
FAR = ("f", F, ())
FEW = [F, S, G, D, (), FAR, ("s", F), ("f", ("s", (), ())), ("b", ("a", ()), ("c", ("a", ()), ()))]
ROWS = [row for many in range(4) for row in itertools.product(FEW, repeat=many)]


def plain_words(bush):
    """The word of each tip, told knot by knot on its road."""
    parts = roads_of(bush)
    return ["".join(parts[road[:size]][0] for size in range(len(road))) for road, part in parts.items() if not part]


def counted(words):
    return tuple((word, words.count(word)) for word in sorted(set(words)))


def with_words(levels, many):
    """A growth with so many unlike words, each of one letter of each level, behind one "r"."""
    rows = sorted(itertools.product(*levels))[:many]

    def made(rows, letter):
        if rows == [()]:
            return (letter, ())
        heads = sorted({row[0] for row in rows})
        return (letter, *[made([row[1:] for row in rows if row[0] == head], head) for head in heads])
    return made(rows, "r")


class WordsTest(unittest.TestCase):
    def test_examples(self):
        self.assertEqual([
            words_of((F, S)), road_letters_of((S, F)), depths_of((F, S)), words_of((G,)), depths_of((G,) * 3),
            words_of(()),
        ], [(("fs", 2),), (("fs", 2),), (0, 0, 2), (("f", 1), ("fs", 1)), (0, 0, 0, 1, 3, 3, 1), (("", 1),)])

    def test_beside_drawn_bushes_tip_by_tip(self):
        for row in ROWS:
            bush = plainly_grown_by((), row)
            words = plain_words(bush)
            self.assertEqual(words_of(row), counted(words))
            self.assertEqual(road_letters_of(row), counted(["".join(sorted(word)) for word in words]))
            depths = [len(word) for word in words]
            self.assertEqual(depths_of(row), tuple(depths.count(depth) for depth in range(max(depths) + 1)))

    def test_small_bushes(self):
        for bush in small_bushes(3):
            words = plain_words(bush)
            self.assertEqual(words_of((bush,)), counted(words))
            self.assertEqual(road_letters_of((bush,)), counted(["".join(sorted(word)) for word in words]))
            self.assertEqual(depths_of((bush,)), tuple(
                sum(len(word) == depth for word in words) for depth in range(max(map(len, words)) + 1)
            ))

    def test_each_is_multiplied_by_growing(self):
        for first, second in itertools.product(ROWS[:91], FEW):
            joined = {}
            for word, many in words_of(first):
                for other, more in words_of((second,)):
                    joined[word + other] = joined.get(word + other, 0) + many * more
            self.assertEqual(words_of((*first, second)[:12]), tuple(sorted(joined.items())))
            depths, mates = depths_of(first), depths_of((second,))
            product = [sum(depths[at] * mates[size - at] for at in range(size + 1) if at < len(depths) and
                           size - at < len(mates)) for size in range(len(depths) + len(mates) - 1)]
            self.assertEqual(depths_of((*first, second)), tuple(product))

    def test_words_that_become_one(self):
        bush = ("a", ("a", ("b", ())), ("b", ("a", ()), ()))
        self.assertEqual(words_of((bush,)), (("aab", 1), ("ab", 1), ("aba", 1)))
        self.assertEqual(road_letters_of((bush,)), (("aab", 2), ("ab", 1)))
        comb = ("a", ("a", ()), ())
        self.assertEqual(words_of((comb, comb)), (("aa", 1), ("aaa", 2), ("aaaa", 1)))
        self.assertEqual(road_letters_of((("z", ("b", ())), ("a", ("m", ())))), (("abmz", 1),))

    def test_all_orders_have_the_same_letters(self):
        for row in ((F, S, G), (D, FAR, ("s", F)), (G, ("b", (), S), ("s", (), F))):
            found = {road_letters_of(order) for order in itertools.permutations(row)}
            self.assertEqual(len(found), 1)
            self.assertEqual(len({depths_of(order) for order in itertools.permutations(row)}), 1)
            self.assertGreater(len({words_of(order) for order in itertools.permutations(row)}), 1)

    def test_rows_that_can_not_be_drawn(self):
        self.assertEqual(words_of((F,) * 12), (("f" * 12, 4096),))
        self.assertEqual(words_of((chain(60),) * 12), (("s" * 720, 1),))
        self.assertEqual(road_letters_of((chain(60),) * 12), (("s" * 720, 1),))
        self.assertEqual(road_letters_of((chain(60), chain(60, "a")) * 6), (("a" * 360 + "s" * 360, 1),))
        self.assertEqual(depths_of((chain(60),) * 12), (0,) * 720 + (1,))
        self.assertEqual(words_of((doubled(7),) * 12), (("d" * 84, 2 ** 84),))
        self.assertEqual(sum(depths_of((wide(400),) * 12)), str(wide(400)).count("()") ** 12)
        comb = ()
        for _ in range(60):
            comb = ("c", comb, ())
        words = words_of((comb,) * 12)
        self.assertEqual([len(words), words[0], words[-1]], [709, ("c" * 12, 1), ("c" * 720, 2 ** 12)])
        self.assertEqual(depths_of((comb,) * 12), (0,) * 12 + tuple(many for _, many in words))
        self.assertEqual(road_letters_of((comb,) * 12), words)
        self.assertEqual([words_of(()), road_letters_of(()), depths_of(())], [(("", 1),), (("", 1),), (1,)])
        self.assertEqual([words_of(((),) * 12), road_letters_of(((),) * 12), depths_of(((),) * 12)],
                         [(("", 1),), (("", 1),), (1,)])


class TooManyTest(unittest.TestCase):
    def test_two_thousand_pairs_and_one_more(self):
        rows = {
            2000: (with_words(("abcdef", "ghij", "kl"), 40), with_words(("mnopqs", "tuv", "wxy"), 50)),
            2001: (with_words(("abcdef", "ghij"), 23), with_words(("mnopqs", "tuvwx", "klz"), 87)),
        }
        for function in (words_of, road_letters_of):
            for many, row in rows.items():
                for order in (row, row[::-1], (S, *row), (*row, (), chain(3)), ((), row[0], ("q", ()), row[1])):
                    if many == 2000:
                        self.assertEqual(len(function(order)), 2000)
                    else:
                        error = raised_by(function, order)
                        self.assertEqual((type(error), error.limit), (TooMany, 2000))
        self.assertEqual(len(words_of(rows[2001][:1])) * len(words_of(rows[2001][1:])), 2001)
        self.assertEqual(len(road_letters_of(rows[2001][:1])) * len(road_letters_of(rows[2001][1:])), 2001)

    def test_many_words_with_few_letters(self):
        both = ("a", ("a", ()), ("b", ()))
        # Two to the power of the years are the words, but the letters are one more than the years.
        self.assertEqual(len(words_of((both,) * 10)), 1024)
        self.assertEqual(raised_by(words_of, (both,) * 11).limit, 2000)
        self.assertEqual(len(road_letters_of((both,) * 12)), 13)
        self.assertEqual(road_letters_of((both,) * 2), (("aaaa", 1), ("aaab", 2), ("aabb", 1)))

    def test_depths_have_no_limit(self):
        self.assertIsNone(raised_by(depths_of, (with_words(("abcdef", "ghijkl", "mnopqs"), 129),) * 12))
