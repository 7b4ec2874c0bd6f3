"""[43]: how great the bush of a row is; with [3], [7]."""

import unittest

from tests.samples import F, S, chain, doubled, plainly_grown_by, roads_of, small_bushes, wide
from tipwoods.rowcounts import can_be_drawn, row_counts


def plain_counts(bush):
    roads = roads_of(bush)
    depths = [len(road) for road in roads if not roads[road]]
    return (len(roads) - len(depths), len(depths), min(depths), max(depths))


class RowCountsTest(unittest.TestCase):
    def test_examples(self):
        self.assertEqual([
            row_counts((F, F, S)), row_counts(()), row_counts((("f", F, ()),) * 12),
            can_be_drawn((F,) * 7), can_be_drawn((F,) * 8),
        ], [(7, 4, 3, 3), (0, 1, 0, 0), (531440, 531441, 12, 24), True, False])

    def test_beside_what_is_drawn(self):
        bushes = small_bushes(2)
        for first in bushes:
            for second in bushes:
                for row in ((first, second), (first, (), second, S), (F, first, second)):
                    self.assertEqual(row_counts(row), plain_counts(plainly_grown_by((), row)))

    def test_tips_change_nothing(self):
        self.assertEqual(row_counts(((),) * 12), (0, 1, 0, 0))
        self.assertEqual(row_counts((F, (), S)), row_counts((F, S)))

    def test_the_greatest_rows(self):
        six = ("f",) + ((),) * 6
        self.assertEqual(row_counts((six,) * 12), ((6 ** 12 - 1) // 5, 6 ** 12, 12, 12))
        self.assertEqual(row_counts((chain(60),) * 12), (720, 1, 720, 720))
        knots, tips, near, height = plain_counts(wide(400))
        total = sum(knots * tips ** year for year in range(12))
        self.assertEqual(row_counts((wide(400),) * 12), (total, tips ** 12, 12 * near, 12 * height))


class CanBeDrawnTest(unittest.TestCase):
    def test_parts(self):
        self.assertIs(can_be_drawn((wide(400),)), True)
        self.assertIs(can_be_drawn((S, wide(399))), True)
        self.assertIs(can_be_drawn((S, wide(400))), False)
        self.assertIs(can_be_drawn((wide(400), ())), True)
        self.assertIs(can_be_drawn((doubled(6), F, F)), False)

    def test_depth(self):
        self.assertIs(can_be_drawn((chain(60),)), True)
        self.assertIs(can_be_drawn((chain(30), chain(30))), True)
        self.assertIs(can_be_drawn((chain(30), chain(31))), False)
        self.assertIs(can_be_drawn((("f", (), chain(58)), S)), True)
        self.assertIs(can_be_drawn((("f", (), chain(58)), S, S)), False)
        self.assertIs(can_be_drawn(()), True)
