"""[71]: counts by depths divided, and taken apart into equal ones; tips after years; with [5], [7], [26], [27]."""

import functools
import itertools
import math
import random
import unittest

from tests.samples import D, F, S, chain, doubled, plainly_grown_by, raised_by, roads_of, small_bushes, wide
from tipwoods.depthbushes import can_have_depths
from tipwoods.depthcuts import cut_by_depths, depth_root, tips_after
from tipwoods.errors import InvalidNumber
from tipwoods.roadwords import depths_of

G = ("f", S, ())


def product(counts, other):
    return tuple(
        sum(counts[at] * other[size - at] for at in range(len(counts)) if 0 <= size - at < len(other))
        for size in range(len(counts) + len(other) - 1)
    )


def power(counts, times):
    return functools.reduce(product, [counts] * times, (1,))


SMALL = [(*low, last) for size in range(4) for low in itertools.product(range(3), repeat=size) for last in (1, 2, 3)]


class CutTest(unittest.TestCase):
    def test_examples(self):
        self.assertEqual([
            cut_by_depths((0, 0, 2), (0, 2)), cut_by_depths((0, 0, 2), (0, 1)), cut_by_depths((0, 1, 0, 0, 1), (1, 1)),
            cut_by_depths((0, 0, 3), (0, 2)),
        ], [(0, 1), (0, 2), None, None])

    def test_beside_multiplying_again(self):
        products = {}
        for counts in SMALL:
            for other in SMALL:
                products.setdefault((product(counts, other), other), []).append(counts)
        for (counts, other), found in products.items():
            # There is just one such tuple of integers, whether it is a bush's or not.
            self.assertEqual(len(found), 1)
            self.assertEqual(cut_by_depths(counts, other), found[0] if can_have_depths(found[0]) else None)
        for counts in SMALL:
            for other in SMALL:
                found = cut_by_depths(counts, other)
                if found is not None:
                    self.assertEqual(product(found, other), counts)
                    self.assertIs(can_have_depths(found), True)
                elif len(counts) >= len(other):
                    told = [low for low in SMALL if len(low) == len(counts) - len(other) + 1 and can_have_depths(low)]
                    self.assertNotIn(counts, [product(low, other) for low in told])

    def test_what_is_no_bushs(self):
        self.assertIsNone(cut_by_depths((0, 7), (0, 1)))
        self.assertIsNone(cut_by_depths((7,), (1,)))
        self.assertIsNone(cut_by_depths((2,), (1,)))
        self.assertEqual(cut_by_depths((2,), (2,)), (1,))
        self.assertIsNone(cut_by_depths((1, 1), (1,)))
        self.assertEqual(cut_by_depths((0, 6), (1,)), (0, 6))
        # The other counts need not be a bush's, nor the counts.
        self.assertEqual(cut_by_depths((0, 9, 9), (9, 9)), (0, 1))
        self.assertEqual(cut_by_depths((0, 7, 7 * 7), (7, 49)), (0, 1))
        self.assertIsNone(cut_by_depths((1, 0, 1), (1, 1)))
        self.assertIsNone(cut_by_depths((0, 1), (0, 0, 1)))
        self.assertIsNone(cut_by_depths((0, 1, 1), (0, 0, 1)))
        self.assertIsNone(cut_by_depths((0, 0, 1), (1, 1)))

    def test_beside_the_depths_of_grown_bushes(self):
        for bush in small_bushes(2) + [F, S, D, G, chain(20), doubled(5)]:
            for growth in (F, S, D, G, (), chain(20), doubled(5)):
                both = depths_of((bush, growth))
                self.assertEqual(cut_by_depths(both, depths_of((growth,))), depths_of((bush,)))
                self.assertEqual(cut_by_depths(both, depths_of((bush,))), depths_of((growth,)))

    def test_great_numbers(self):
        far = (0,) * 30 + (10 ** 9,)
        self.assertEqual(cut_by_depths((0,) * 60 + (10 ** 18,), far), far)
        self.assertIsNone(cut_by_depths((0,) * 60 + (10 ** 18 - 1,), far))
        self.assertEqual(cut_by_depths((0,) * 60 + (10 ** 18,), (10 ** 18,)), (0,) * 60 + (1,))
        many = tuple([0] + [10 ** 18] * 60)
        self.assertIsNone(cut_by_depths(many, (1, 1)))
        self.assertIsNone(cut_by_depths(many, (10 ** 18, 1)))
        chance = random.Random(6)
        for _ in range(200):
            low = tuple([0] * 20 + [chance.randrange(10 ** 7) for _ in range(10)] + [chance.randrange(1, 10 ** 7)])
            other = tuple([chance.randrange(10 ** 9) for _ in range(29)] + [chance.randrange(1, 10 ** 9)])
            self.assertEqual(cut_by_depths(product(low, other), other), low)
            for at in (0, 25, 40, 59):
                changed = list(product(low, other))
                changed[at] += 1
                self.assertIsNone(cut_by_depths(tuple(changed), other))


class RootTest(unittest.TestCase):
    def test_examples(self):
        self.assertEqual([
            depth_root((0, 0, 1, 2, 1), 2), depth_root((0, 0, 1, 6, 7, 0, 21, 0, 7, 6, 1), 2), depth_root((0, 2), 2),
        ], [(0, 1, 1), (0, 1, 3, -1, 3, 1), None])

    def test_beside_all_roots_of_few_items(self):
        powers = {}
        for size in range(4):
            for low in itertools.product(range(-3, 4), repeat=size):
                for last in (1, 2, 3):
                    for times in (1, 2, 3, 4):
                        counts = power((*low, last), times)
                        if min(counts) >= 0:
                            powers.setdefault((counts, times), []).append((*low, last))
        for (counts, times), roots in powers.items():
            self.assertEqual([depth_root(counts, times)], roots)
        for size in range(1, 5):
            for low in itertools.product(range(3), repeat=size):
                for times in (2, 3, 4):
                    counts = (*low, 1)
                    self.assertEqual(depth_root(counts, times), powers.get((counts, times), [None])[0])

    def test_times_1_and_12(self):
        for counts in SMALL:
            self.assertEqual(depth_root(counts, 1), counts)
        self.assertEqual(depth_root((0,) * 12 + (1,), 12), (0, 1))
        self.assertEqual(depth_root(power((1, 1), 12), 12), (1, 1))
        self.assertEqual(depth_root(power((0, 1, 1, 0, 0, 2), 12), 12), (0, 1, 1, 0, 0, 2))
        self.assertEqual(depth_root(power((1, 2, 1), 12), 12), (1, 2, 1))
        self.assertIsNone(depth_root((0,) * 12 + (2,), 12))
        self.assertEqual(depth_root((4096,), 12), (2,))
        self.assertIsNone(depth_root((4097,), 12))
        self.assertIsNone(depth_root((0,) * 11 + (1,), 12))

    def test_great_numbers(self):
        for times in range(1, 13):
            base = 2
            while (base + 1) ** times <= 10 ** 18 and base < 10 ** 6:
                base = base * 3 + 1
            for number in (base ** times, base ** times - 1, base ** times + 1):
                if number <= 10 ** 18:
                    expected = (base,) if number == base ** times else None if times > 1 else (number,)
                    self.assertEqual(depth_root((number,), times), expected)
        self.assertEqual(depth_root((10 ** 18,), 2), (10 ** 9,))
        self.assertEqual(depth_root((10 ** 18,), 6), (1000,))
        self.assertIsNone(depth_root((10 ** 18,), 4))
        self.assertIsNone(depth_root((0,) + (10 ** 18,) * 60, 2))
        self.assertIsNone(depth_root((1, 0) * 30 + (10 ** 18,), 3))

    def test_by_chance(self):
        chance = random.Random(4)
        found = 0
        while found < 300:
            times = chance.randrange(2, 7)
            size = chance.randrange(1, 60 // times)
            root = tuple(chance.randrange(-1, 9) for _ in range(size)) + (chance.randrange(1, 9),)
            counts = power(root, times)
            if min(counts) >= 0 and max(counts) <= 10 ** 18:
                found += 1
                self.assertEqual(depth_root(counts, times), root)
                changed = list(counts)
                changed[chance.randrange(size * times)] += 1
                self.assertIsNone(depth_root(tuple(changed), times))


class TipsAfterTest(unittest.TestCase):
    def test_examples(self):
        self.assertEqual([tips_after(G, 10, 2), tips_after((), 5, 0), tips_after(F, 3, 1)], [45, 1, 0])

    def test_beside_the_drawn_bush(self):
        for growth in small_bushes(2) + [F, S, D, G, ("f", ("f", F, ()), ())]:
            for years in range(4):
                roads = [road for road, part in roads_of(plainly_grown_by((), (growth,) * years)).items() if not part]
                depths = sorted(map(len, roads))
                for more in range(8):
                    self.assertEqual(tips_after(growth, years, more), depths.count(depths[0] + more))

    def test_beside_rows_of_twelve_years(self):
        for growth in (G, D, ("f", ("f", F, ()), ()), doubled(5), ("f", chain(9), (), chain(3))):
            for years in range(13):
                depths = depths_of((growth,) * years)
                near = next(depth for depth, many in enumerate(depths) if many)
                for more in range(61):
                    self.assertEqual(tips_after(growth, years, more), (depths + (0,) * 99)[near + more])

    def test_0_and_2000_years(self):
        for growth in (F, S, D, G, (), wide(400), chain(60)):
            self.assertEqual([tips_after(growth, 0, more) for more in (0, 1, 60)], [1, 0, 0])
            self.assertEqual([tips_after((), 2000, more) for more in (0, 1, 60)], [1, 0, 0])
        for more in (0, 1, 2, 59, 60):
            self.assertEqual(tips_after(G, 2000, more), math.comb(2000, more))
            self.assertEqual(tips_after(G, 1999, more), math.comb(1999, more))
        self.assertEqual([tips_after(F, 2000, more) for more in (0, 1, 60)], [2 ** 2000, 0, 0])
        self.assertEqual([tips_after(chain(60), 2000, more) for more in (0, 60)], [1, 0])
        # Two tips near, and three that are one deeper.
        self.assertEqual(tips_after(("f", (), (), ("f", (), (), ())), 2000, 7), math.comb(2000, 7) * 3 ** 7 * 2 ** 1993)

    def test_limits(self):
        for wrong in (2001, -1, True, None, "1", 10 ** 119):
            self.assertIs(type(raised_by(tips_after, F, wrong, 0)), InvalidNumber)
        for wrong in (61, -1, True, None, "1", 10 ** 119):
            self.assertIs(type(raised_by(tips_after, F, 0, wrong)), InvalidNumber)
        for wrong in (0, 13, -1, True, None, "1", 10 ** 119):
            self.assertIs(type(raised_by(depth_root, (0, 1), wrong)), InvalidNumber)
