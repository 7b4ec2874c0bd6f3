"""[40]: bushes, rows of growths, and how great bushes are; with [4], [5], [7]."""

import unittest

from tests.samples import F, NO_BUSHES, NO_ROWS, ODD_VALUES, S, chain, doubled, roads_of, small_bushes, wide
from tipwoods.bushes import are_growths, height_of, is_bush, knots_of, near_depth, tips_of, widths_of

BIG = wide(400)
DEEP = chain(60)


class IsBushTest(unittest.TestCase):
    def test_examples(self):
        found = [is_bush(()), is_bush(("f",)), is_bush(("f", (), "s")), is_bush(("F", ()))]
        self.assertEqual(found, [True, False, False, False])
        self.assertEqual([are_growths((F, ())), are_growths([F])], [True, False])

    def test_bushes(self):
        for bush in small_bushes(3) + [BIG, DEEP, wide(399), chain(59), doubled(7), ("f", DEEP[1], ())]:
            self.assertIs(is_bush(bush), True)

    def test_all_letters(self):
        for sign in map(chr, range(128)):
            self.assertIs(is_bush((sign, ())), "a" <= sign <= "z", sign)
            self.assertIs(is_bush(("f", (), (sign, ()))), "a" <= sign <= "z", sign)
        for word in ("", "ab", "aa", "\u00e9", "\u00aa"):
            self.assertIs(is_bush((word, ())), False, word)

    def test_one_to_six_branches(self):
        for many in range(10):
            self.assertIs(is_bush(("f",) + ((),) * many), 1 <= many <= 6, many)
            self.assertIs(is_bush(("f", (), ("f",) + (S,) * many)), 1 <= many <= 6, many)

    def test_parts_up_to_the_limit(self):
        for parts in range(1, 430):
            self.assertIs(is_bush(wide(parts)), parts <= 400, parts)
        self.assertIs(is_bush(doubled(7)), True)
        self.assertIs(is_bush(doubled(8)), False)

    def test_depth_up_to_the_limit(self):
        for knots in range(57, 66):
            self.assertIs(is_bush(chain(knots)), knots <= 60, knots)
            self.assertIs(is_bush(("f", (), chain(knots), S)), knots <= 59, knots)

    def test_wrong_values(self):
        for value in NO_BUSHES + ODD_VALUES:
            self.assertIs(is_bush(value), False)
            self.assertIs(is_bush(("f", (), value)), False)
            self.assertIs(is_bush(("f", value, S)), False)

    def test_the_form_of_a_bush_in_lists(self):
        for value in ([], ["f", ()], ("f", []), ["f", []], ("f", (), ["s", ()])):
            self.assertIs(is_bush(value), False)


class AreGrowthsTest(unittest.TestCase):
    def test_rows(self):
        for row in ((), ((),), (F,), (F, S, ()), (BIG,) * 12, (DEEP,) * 12, ((),) * 12):
            self.assertIs(are_growths(row), True)

    def test_number_of_growths(self):
        for many in range(15):
            self.assertIs(are_growths((S,) * many), many <= 12, many)

    def test_wrong_values(self):
        for value in NO_ROWS + [value for value in ODD_VALUES if value != ()]:
            self.assertIs(are_growths(value), False)
        for value in NO_BUSHES + ODD_VALUES:
            for row in ((value,), (F, value), (value, S), (F,) * 11 + (value,)):
                self.assertIs(are_growths(row), False)


class SizesTest(unittest.TestCase):
    def test_examples(self):
        bush = ("f", F, ())
        found = [knots_of(bush), tips_of(bush), near_depth(bush), height_of(bush), widths_of(bush), widths_of(())]
        self.assertEqual(found, [2, 3, 1, 2, (1, 2, 2), (1,)])

    def test_the_tip(self):
        self.assertEqual([knots_of(()), tips_of(()), near_depth(()), height_of(())], [0, 1, 0, 0])

    def test_the_greatest_ones(self):
        self.assertEqual(knots_of(BIG) + tips_of(BIG), 400)
        self.assertEqual([knots_of(DEEP), tips_of(DEEP), near_depth(DEEP), height_of(DEEP)], [60, 1, 60, 60])
        self.assertEqual(widths_of(DEEP), (1,) * 61)
        self.assertEqual(widths_of(doubled(7)), (1, 2, 4, 8, 16, 32, 64, 128))
        self.assertEqual([near_depth(("f", DEEP[1], ())), height_of(("f", DEEP[1], ()))], [1, 60])

    def test_beside_all_roads(self):
        for bush in small_bushes(3) + [BIG, ("f", F, W_BRANCHED, S)]:
            roads = roads_of(bush)
            depths = [len(road) for road in roads if not roads[road]]
            self.assertEqual(knots_of(bush), len(roads) - len(depths))
            self.assertEqual(tips_of(bush), len(depths))
            self.assertEqual(near_depth(bush), min(depths))
            self.assertEqual(height_of(bush), max(depths))
            widths = [0] * (max(depths) + 1)
            for road in roads:
                widths[len(road)] += 1
            self.assertEqual(widths_of(bush), tuple(widths))


W_BRANCHED = ("w", (), S, (), F, ("w",) + (F,) * 6, S)
