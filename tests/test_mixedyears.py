"""[78]: mixed bushes grown by one mixed growth for many years; with [3], [33], [34]."""

import itertools
import random
import unittest

from tests.samples import chain, raised_by, wide
from tests.test_mixedbushes import (
    B, C, calls_by_chance, change_by_chance, mixed_by_chance, plainly_mixed, tips_as, tips_with_roads,
)
from tipwoods.errors import InvalidMixedRow, InvalidNumber
from tipwoods.mixedalike import grow_alike
from tipwoods.mixedyears import first_unlike, lots_of_years, tips_in_year, undoing_change


def lot(mixed):
    return tuple(sorted({sort for sort, _ in tips_with_roads(mixed)}))


def counts(sorts, mixed):
    found = [sort for sort, _ in tips_with_roads(mixed)]
    return [found.count(sort) for sort in range(sorts)]


def next_counts(sorts, tips, change):
    return [sum(many * counts(sorts, growth)[sort] for many, growth in zip(tips, change)) for sort in range(sorts)]


def far_counts(sorts, start, change, years, modulus):
    """The tips of each sort by the tips that come of one tip, for half of the years, told twice."""
    def of_each(left):
        if left == 0:
            return [[int(sort == at) for at in range(sorts)] for sort in range(sorts)]
        if left % 2:
            below = of_each(left - 1)
            return [[many % modulus for many in next_counts(sorts, row, change)] for row in below]
        below = of_each(left // 2)
        return [[sum(row[sort] * below[sort][at] for sort in range(sorts)) % modulus for at in range(sorts)]
                for row in below]
    rows = of_each(years)
    return tuple(sum(many * rows[sort][at] for sort, many in enumerate(start)) % modulus for at in range(sorts))


class LotsTest(unittest.TestCase):
    def test_examples(self):
        self.assertEqual([
            lots_of_years(2, 1, C), first_unlike(2, 0, C, 0, (B, 1)), first_unlike(2, 0, (0, B), 0, (0, 1)),
            tips_in_year(2, 0, C, 12, 100),
        ], [([(1,), (0,), (0, 1)], 2), 2, None, (33, 44)])
        self.assertEqual([undoing_change(3, (1, 2, 0)), undoing_change(2, (0, 0)), undoing_change(2, C)],
                         [(2, 0, 1), None, None])

    def test_beside_drawing_year_by_year(self):
        chance = random.Random(7)
        told = set()
        for sorts, mixed, _ in calls_by_chance(11, 400):
            change = change_by_chance(chance, sorts, 1)
            lots, again = lots_of_years(sorts, mixed, change)
            told.add((len(lots), again))
            drawn = mixed
            years = []
            for _ in range(len(lots) + 1):
                years.append(lot(drawn))
                if len(tips_with_roads(drawn)) > 3000:
                    break
                drawn = plainly_mixed(drawn, (change,))
            else:
                self.assertEqual((years[:-1], years[-1]), (lots, lots[again]))
            self.assertEqual(lots[:len(years)], years[:len(lots)])
            self.assertEqual(len(set(lots)), len(lots))
        self.assertGreater(len(told), 6)

    def test_edges(self):
        self.assertEqual(lots_of_years(1, 0, (0,)), ([(0,)], 0))
        self.assertEqual(lots_of_years(4, 0, (1, 2, 3, 0)), ([(0,), (1,), (2,), (3,)], 0))
        self.assertEqual(lots_of_years(4, 0, (1, 2, 3, 1)), ([(0,), (1,), (2,), (3,)], 1))
        self.assertEqual(lots_of_years(4, ("f", 3, 0), (1, 2, 3, 3)), ([(0, 3), (1, 3), (2, 3), (3,)], 3))
        # The sorts go round, one of them leaving another one behind each time.
        found, again = lots_of_years(4, 0, (1, 2, 3, ("f", 0, 1)))
        self.assertEqual(found[:6], [(0,), (1,), (2,), (3,), (0, 1), (1, 2)])
        self.assertEqual([found[-1], again, len(found)], [(0, 1, 2, 3), len(found) - 1, len(found)])
        growths = [*range(4), *[("f", *pair) for pair in itertools.combinations(range(4), 2)]]
        greatest = max(len(lots_of_years(4, 0, change)[0]) for change in itertools.product(growths, repeat=4))
        self.assertEqual(greatest, 11)


class FirstUnlikeTest(unittest.TestCase):
    def test_beside_growing_year_by_year(self):
        chance = random.Random(9)
        told = set()
        for sorts, mixed, _ in calls_by_chance(12, 600):
            change = change_by_chance(chance, sorts, 1)
            second = tuple(chance.choice((growth, growth, mixed_by_chance(chance, sorts, 1))) for growth in change)
            mate = mixed if chance.random() < 0.8 else mixed_by_chance(chance, sorts, 1)
            years = [year for year in range(13)
                     if not grow_alike(sorts, mixed, (change,) * year, mate, (second,) * year)]
            expected = years[0] if years else None
            self.assertEqual(first_unlike(sorts, mixed, change, mate, second), expected)
            self.assertEqual(first_unlike(sorts, mate, second, mixed, change), expected)
            told.add(expected)
            # [3]: never, just if both are equal, and both growths so at each sort that comes.
            comes = {sort for each in lots_of_years(sorts, mixed, change)[0] for sort in each}
            self.assertIs(expected is None, mixed == mate and all(change[sort] == second[sort] for sort in comes))
        self.assertTrue({None, 0, 1, 2, 3} <= told, told)

    def test_late_years(self):
        self.assertEqual(first_unlike(4, 0, (1, 2, 3, 3), 0, (1, 2, 3, 0)), 4)
        self.assertEqual(first_unlike(4, 0, (1, 2, 3, 0), 0, (1, 2, 3, 1)), 4)
        self.assertIsNone(first_unlike(4, 0, (1, 2, 0, 3), 0, (1, 2, 0, 1)))
        self.assertEqual(first_unlike(1, 0, (0,), ("s", 0), (0,)), 0)
        self.assertIsNone(first_unlike(1, chain(60, "s", 0), (tips_as(wide(400), 0),), chain(60, "s", 0),
                                       (tips_as(wide(400), 0),)))
        # They may be equal again later, or as bushes of one year: the first year tells.
        self.assertEqual(first_unlike(2, 0, (1, 1), 0, (0, 0)), 1)


class FarYearsTest(unittest.TestCase):
    def test_beside_counting_year_by_year(self):
        chance = random.Random(13)
        for sorts, mixed, _ in calls_by_chance(14, 120):
            change = change_by_chance(chance, sorts, 3)
            tips = counts(sorts, mixed)
            for years in range(12):
                for modulus in (1, 2, 10, 10 ** 9 - 1, 10 ** 9):
                    self.assertEqual(tips_in_year(sorts, mixed, change, years, modulus),
                                     tuple(many % modulus for many in tips))
                tips = next_counts(sorts, tips, change)

    def test_far_years_beside_halves(self):
        chance = random.Random(15)
        for sorts, mixed, _ in calls_by_chance(16, 40):
            change = change_by_chance(chance, sorts, 9)
            for years in (1000, 12345678901, 10 ** 30 - 1, 10 ** 30):
                for modulus in (1, 7, 10 ** 9):
                    expected = far_counts(sorts, counts(sorts, mixed), change, years, modulus)
                    self.assertEqual(tips_in_year(sorts, mixed, change, years, modulus), expected)

    def test_edges(self):
        self.assertEqual(tips_in_year(1, 0, (("f", 0, 0),), 10 ** 30, 10 ** 9), (pow(2, 10 ** 30, 10 ** 9),))
        self.assertEqual(tips_in_year(1, 0, (("f", 0, 0),), 10 ** 30, 1), (0,))
        self.assertEqual(tips_in_year(2, ("f", 0, 0, 0), C, 0, 2), (1, 0))
        self.assertEqual(tips_in_year(2, ("f", 0, 0, 0), C, 0, 1), (0, 0))
        self.assertEqual(tips_in_year(4, 0, (1, 2, 3, 0), 10 ** 30 - 1, 10 ** 9), (0, 0, 0, 1))
        self.assertEqual(tips_in_year(4, 0, (1, 2, 3, 0), 10 ** 30, 10 ** 9), (1, 0, 0, 0))
        great = tips_as(wide(400), 0)
        many = len(tips_with_roads(great))
        self.assertEqual(tips_in_year(1, great, (great,), 10 ** 30, 10 ** 9),
                         (many * pow(many, 10 ** 30, 10 ** 9) % 10 ** 9,))

    def test_limits(self):
        for wrong in (-1, 10 ** 30 + 1, True, None, "1", 10 ** 119):
            self.assertIs(type(raised_by(tips_in_year, 1, 0, (0,), wrong, 1)), InvalidNumber)
        for wrong in (0, -1, 10 ** 9 + 1, True, None, "1", 10 ** 119):
            self.assertIs(type(raised_by(tips_in_year, 1, 0, (0,), 0, wrong)), InvalidNumber)
        self.assertIs(type(raised_by(tips_in_year, 2, 0, (0,), -1, 0)), InvalidMixedRow)


class UndoingTest(unittest.TestCase):
    def test_beside_growing(self):
        samples = [0, 1, B, ("s", 1), ("f", ("f", 1, 0), 0)]
        growths = [0, 1, ("s", 0), ("s", 1), B]
        for change in itertools.product(growths, repeat=2):
            found = undoing_change(2, change)
            fitting = [other for other in itertools.product(growths, repeat=2)
                       if all(plainly_mixed(mixed, (change, other)) == mixed for mixed in samples)]
            self.assertEqual([] if found is None else [found], fitting)

    def test_all_orders_of_sorts(self):
        for sorts in range(1, 5):
            for change in itertools.product(range(sorts), repeat=sorts):
                found = undoing_change(sorts, change)
                self.assertIs(found is None, len(set(change)) < sorts)
                if found is not None:
                    self.assertEqual([plainly_mixed(sort, (change, found)) for sort in range(sorts)],
                                     list(range(sorts)))
                    self.assertEqual(undoing_change(sorts, found), change)

    def test_edges(self):
        self.assertEqual([undoing_change(1, (0,)), undoing_change(1, (("s", 0),))], [(0,), None])
        self.assertEqual(undoing_change(4, (3, 0, 1, 2)), (1, 2, 3, 0))
        self.assertIsNone(undoing_change(4, (3, 0, 1, ("s", 2))))
        for wrong in ((0, 1, 2), (0,), (0, 2), [0, 1], None, ((0, 1),)):
            self.assertIs(type(raised_by(undoing_change, 2, wrong)), InvalidMixedRow)
