"""[69]: counts by depths, and the bushes that have them; with [3], [4], [25], [26]."""

import fractions
import itertools
import random
import unittest

from tests.samples import F, NO_COUNTS, ODD_VALUES, S, chain, count_parts, raised_by
from tipwoods.bushes import is_bush, knots_of
from tipwoods.depthbushes import bush_by_depths, can_have_depths, fewest_by_depths
from tipwoods.errors import InvalidCounts, TooMany
from tipwoods.roadwords import depths_of


def added(counts, other):
    return tuple(many + more for many, more in itertools.zip_longest(counts, other, fillvalue=0))


def depths_by_knots(most):
    """The list of the sets of the depths of all bushes with 0, 1, .. knots, told knot by knot."""
    found = [{(1,)}]
    for knots in range(1, most + 1):
        # The sums of the depths of so many branches, which have so many knots in all.
        rows = {(0, 0): {()}}
        for branches in range(1, 7):
            for inside in range(knots):
                rows[branches, inside] = {
                    added(row, depths) for last in range(inside + 1)
                    for row in rows.get((branches - 1, inside - last), ()) for depths in found[last]
                }
        found.append({(0, *row) for branches in range(1, 7) for row in rows[branches, knots - 1]})
    return found


def fewest_told_downwards(counts):
    """The fewest knots by the least number of knots at each depth that leaves room for what stands below it."""
    knots = [0] * (len(counts) + 1)
    for depth in reversed(range(len(counts) - 1)):
        knots[depth] = -(-(counts[depth + 1] + knots[depth + 1]) // 6)
    return sum(knots) if knots[0] + counts[0] == 1 else None


def full(tips, depth):
    """How many parts the least bush with so many tips, all at one depth, has."""
    parts = tips
    for _ in range(depth):
        tips = -(-tips // 6)
        parts += tips
    return parts if tips == 1 else None


class DepthsTest(unittest.TestCase):
    def test_examples(self):
        self.assertEqual([
            can_have_depths((0, 6)), can_have_depths((0, 7)), can_have_depths((0, 5, 6)), can_have_depths((0, 5, 7)),
            can_have_depths((1,)), can_have_depths((1, 1)),
        ], [True, False, True, False, True, False])
        self.assertEqual([
            fewest_by_depths((0, 0, 7)), fewest_by_depths((0, 6)), fewest_by_depths((0, 7)),
            depths_of((bush_by_depths((0, 1, 2)),)), bush_by_depths((0, 7)),
        ], [3, 1, None, (0, 1, 2), None])

    def test_beside_all_bushes_of_few_knots(self):
        found = {}
        for knots, all_depths in enumerate(depths_by_knots(5)):
            for depths in all_depths:
                found.setdefault(depths, knots)
        for depths, knots in found.items():
            self.assertEqual(fewest_by_depths(depths), knots, depths)
            self.assertIs(can_have_depths(depths), True)
        for counts in [*itertools.product(range(9), repeat=2), *itertools.product(range(7), repeat=3),
                       *itertools.product((0, 1, 5, 6, 7), repeat=4)]:
            if counts[-1]:
                knots = fewest_by_depths(counts)
                self.assertEqual(knots if knots is not None and knots <= 5 else None, found.get(counts), counts)

    def test_the_sum_of_the_shares_of_all_tips(self):
        chance = random.Random(3)
        for _ in range(3000):
            size = chance.choice((1, 2, 3, 5, 9, 30, 61))
            counts = [chance.choice((0, 0, 1, 2, 5, 6)) * 6 ** chance.randrange(max(1, min(at, 23)))
                      for at in range(size)]
            counts = tuple(min(many, 10 ** 18) for many in counts[:-1]) + (max(1, min(counts[-1], 10 ** 18)),)
            share = sum(fractions.Fraction(many, 6 ** depth) for depth, many in enumerate(counts))
            self.assertIs(can_have_depths(counts), share <= 1, counts)
            self.assertEqual(fewest_by_depths(counts), fewest_told_downwards(counts))
            self.assertIs(fewest_by_depths(counts) is not None, share <= 1)

    def test_a_full_bush_and_one_tip_more(self):
        for height in range(1, 23):
            full_depth = min(6 ** height, 10 ** 18)
            counts = (0,) * height + (full_depth,)
            self.assertIs(can_have_depths(counts), True)
            self.assertIs(can_have_depths((0,) * height + (min(6 ** height + 1, 10 ** 18),)),
                          6 ** height + 1 > 10 ** 18)
            if height > 1 and 6 ** height <= 10 ** 18:
                split = (0,) * (height - 1) + (1, 6 ** height - 6)
                self.assertIs(can_have_depths(split), True)
                self.assertIs(can_have_depths((0,) * (height - 1) + (1, 6 ** height - 5)), False)
                self.assertEqual(fewest_by_depths(split), (6 ** height - 1) // 5 - 1)

    def test_bushes(self):
        for depths in sorted(set().union(*depths_by_knots(4))):
            bush = bush_by_depths(depths)
            self.assertIs(is_bush(bush), True)
            self.assertEqual(depths_of((bush,)), depths)
        for counts in itertools.product(range(8), repeat=3):
            if counts[-1]:
                bush = bush_by_depths(counts)
                self.assertIs(bush is None, fewest_by_depths(counts) is None)
                if bush is not None:
                    self.assertEqual((is_bush(bush), depths_of((bush,))), (True, counts))

    def test_lengths_of_1_and_61(self):
        self.assertEqual([can_have_depths((many,)) for many in (1, 2, 10 ** 18)], [True, False, False])
        self.assertEqual([fewest_by_depths((1,)), fewest_by_depths((2,)), bush_by_depths((1,)), bush_by_depths((2,))],
                         [0, None, (), None])
        low = (0,) * 60
        self.assertEqual([fewest_by_depths((*low, 1)), depths_of((bush_by_depths((*low, 1)),))], [60, (*low, 1)])
        self.assertEqual(fewest_by_depths((*low, 10 ** 18)), sum(-(-10 ** 18 // 6 ** at) for at in range(1, 61)))
        self.assertIs(can_have_depths((0,) + (10 ** 18,) * 60), False)
        self.assertIs(can_have_depths((0,) * 25 + (10 ** 18,) * 36), True)
        self.assertIsNone(bush_by_depths((0,) + (10 ** 18,) * 60))
        comb = (0,) + (1,) * 59 + (2,)
        self.assertEqual([fewest_by_depths(comb), depths_of((bush_by_depths(comb),))], [60, comb])
        self.assertEqual(bush_by_depths((0,) * 7 + (1,)), chain(7, bush_by_depths((0, 1))[0]))

    def test_400_parts_and_one_more(self):
        seen = []
        for depth in range(1, 61):
            for tips in range(300, 341):
                parts = full(tips, depth)
                if parts in (399, 400, 401, 402):
                    seen.append(parts)
                    counts = (0,) * depth + (tips,)
                    self.assertEqual(fewest_by_depths(counts), parts - tips)
                    if parts > 400:
                        error = raised_by(bush_by_depths, counts)
                        self.assertEqual((type(error), error.limit), (TooMany, 400))
                    else:
                        bush = bush_by_depths(counts)
                        self.assertEqual((depths_of((bush,)), count_parts(bush)), (counts, parts))
                        self.assertIs(is_bush(bush), True)
        self.assertEqual(sorted(set(seen)), [399, 400, 401, 402])
        for counts in ((0,) * 24 + (10 ** 18,), (0,) * 60 + (341,), (0, 0, 0, 5, 1000)):
            self.assertEqual(raised_by(bush_by_depths, counts).limit, 400)
        # What is no bush's has no bush with more parts, either.
        self.assertIsNone(bush_by_depths((0, 1000)))
        self.assertIsNone(bush_by_depths((1, 10 ** 18)))

    def test_depths_of_bushes_have_as_few_knots_as_any(self):
        for bush in (F, S, ("f", F, S), chain(60), ("f", *[F] * 6)):
            self.assertLessEqual(fewest_by_depths(depths_of((bush,))), knots_of(bush))

    def test_wrong_counts(self):
        for wrong in NO_COUNTS + ODD_VALUES:
            for function in (can_have_depths, fewest_by_depths, bush_by_depths):
                self.assertIs(type(raised_by(function, wrong)), InvalidCounts, wrong)
        for right in ((1,), (0, 1), (10 ** 18,), (0,) * 60 + (10 ** 18,), (0,) * 60 + (1,), (10 ** 18,) * 61):
            self.assertIsNone(raised_by(can_have_depths, right))
