"""[73]: rows of grafts that do the same, grafts exchanged and led past each other; with [3], [28], [29], [30]."""

import itertools
import unittest

from tests.samples import F, ODD_VALUES, S, chain, raised_by, wide
from tests.test_grafts import G, PIECES, V, count_tips, plainly_grafted, rows_by_chance
from tipwoods.bushes import is_bush
from tipwoods.errors import InvalidGrafts, InvalidNumber
from tipwoods.graftrows import apart_bush, can_swap, led_past, same_grafts
from tipwoods.grafts import is_graft_row, lot_of, need_of
from tipwoods.graftwoods import first_root


def flat(tips):
    """A bush with so many tips, none of which is alike to another one by the letters beside it."""
    return ("a", flat(tips - 1), ()) if tips > 1 else ()


FLAT = [flat(tips) for tips in range(1, 14)]
PAIRS = [((number, part), (other, mate))
         for number, part, other, mate in itertools.product(range(5), PIECES, range(5), PIECES)]


def plain_same(grafts, others):
    """Whether two rows do the same to bushes with 1 to 13 tips, which is more than any of those here need."""
    return all(plainly_grafted(bush, grafts) == plainly_grafted(bush, others) for bush in FLAT)


def marked_order(grafts, tips=120):
    """The tips of what comes of many marked ones by a row, each as the way by which it was brought.

    Beside them stands, for each graft, the way of the tip in the place of which it is put.
    """
    ways = [(number,) for number in range(tips)]
    places = []
    for number, part in grafts:
        way = ways[number]
        places.append((way, part))
        ways[number:number + 1] = [(*way, part, spot) for spot in range(count_tips(part))]
    return ways, places


class SameTest(unittest.TestCase):
    def test_examples(self):
        self.assertEqual([
            same_grafts(G, ((1, ("v", ("s", ()), ())),)), same_grafts((), ((1, ()),)),
            can_swap(((0, ("s", ())), (3, V)), 0),
            can_swap(((0, V), (3, ())), 0),
        ], [True, False, True, False])
        self.assertEqual([
            led_past(((0, V), (3, ("s", ()))), 0), led_past(((3, V), (1, V)), 0), led_past(G, 0),
        ], [((2, ("s", ())), (0, ("v", (), ()))), ((1, ("v", (), ())), (4, ("v", (), ()))), None])

    def test_beside_doing_both_to_bushes(self):
        rows = rows_by_chance(4, 60, 3, 3, PIECES[:4]) + [(), ((0, ()),), ((1, ()),), G]
        for grafts in rows:
            for others in rows:
                same = plain_same(grafts, others)
                self.assertIs(same_grafts(grafts, others), same)
                # [3]: with the same need and the same lot, and in no other case.
                self.assertIs((need_of(grafts), lot_of(grafts)) == (need_of(others), lot_of(others)), same)

    def test_apart(self):
        rows = rows_by_chance(5, 80, 5, 3) + [(), ((0, ()),), ((100, ()),), ((100, S),), ((99, V), (100, ())),
                                              ((0, wide(400)),)]
        for grafts in rows:
            for others in rows:
                bush = apart_bush(grafts, others)
                self.assertIs(bush is None, same_grafts(grafts, others))
                if bush is not None:
                    self.assertIs(is_bush(bush), True)
                    self.assertNotEqual(plainly_grafted(bush, grafts), plainly_grafted(bush, others))

    def test_apart_by_need_alone_and_by_lot_alone(self):
        for number in (1, 5, 6, 36, 99, 100):
            for row, other in (((), ((number, ()),)), (((number, ()),), ()), (((number, ()),), ((number - 1, ()),))):
                bush = apart_bush(row, other)
                self.assertIs(is_bush(bush), True)
                self.assertIs(plainly_grafted(bush, row) is None, plainly_grafted(bush, other) is not None)
            row, other = ((number, S),), ((number, F),)
            bush = apart_bush(row, other)
            self.assertNotIn(None, (plainly_grafted(bush, row), plainly_grafted(bush, other)))
            self.assertNotEqual(plainly_grafted(bush, row), plainly_grafted(bush, other))


class SwapTest(unittest.TestCase):
    def test_beside_both_orders(self):
        for pair in PAIRS:
            self.assertIs(can_swap(pair, 0), plain_same(pair, pair[::-1]), pair)

    def test_if_and_only_if_numbers_and_roots_let_it(self):
        for (number, part), (other, mate) in PAIRS:
            if number != other:
                expected = count_tips(part if number < other else mate) == 1
            else:
                expected = () in (part, mate) or first_root(part)[0] == first_root(mate)[0]
            self.assertIs(can_swap(((number, part), (other, mate)), 0), expected)
        chained = ("v", ("v", (), ()), ())
        self.assertIs(can_swap(((2, V), (2, chained)), 0), True)
        self.assertIs(can_swap(((2, ("v", (), V)), (2, V)), 0), False)

    def test_only_both_grafts_count(self):
        for row in rows_by_chance(6, 100, 6, 6):
            for index in range(len(row) - 1):
                self.assertIs(can_swap(row, index), can_swap(row[index:index + 2], 0))


class LedTest(unittest.TestCase):
    def test_each_graft_has_the_same_tip_as_before(self):
        told = set()
        for row in rows_by_chance(7, 600, 8, 6):
            for index in range(len(row) - 1):
                ways, places = marked_order(row)
                found = led_past(row, index)
                grows = places[index + 1][0][:-1] == (*places[index][0], row[index][1])
                self.assertIs(found is None, grows, (row, index))
                told.add(grows)
                if found is not None:
                    order = list(range(len(row)))
                    order[index], order[index + 1] = index + 1, index
                    led_ways, led_places = marked_order(found)
                    self.assertEqual(led_places, [places[at] for at in order])
                    self.assertEqual(led_ways, ways)
                    self.assertEqual(led_past(found, index) if is_graft_row(found) else row, row)
        self.assertEqual(told, {True, False})

    def test_edges(self):
        self.assertEqual(led_past(((0, ()), (1, S)), 0), ((1, S), (0, ())))
        self.assertIsNone(led_past(((0, ()), (0, S)), 0))
        self.assertIsNone(led_past(((1, V), (2, S)), 0))
        self.assertEqual(led_past(((1, V), (3, S)), 0), ((2, S), (1, V)))
        self.assertEqual(led_past(((1, V), (0, S)), 0), ((0, S), (1, V)))
        # Numbers above 100 come of numbers that are let.
        self.assertEqual(led_past(((100, S), (0, V)), 0), ((0, V), (101, S)))
        great = wide(390)
        self.assertEqual(led_past(((100, S), (99, great), (0, ())), 0),
                         ((99, great), (99 + count_tips(great), S), (0, ())))
        self.assertEqual(led_past(((5, F), (0, S), (9, F), (2, S)), 1), ((5, F), (9, F), (0, S), (2, S)))
        self.assertEqual(led_past(((5, F), (9, S), (0, F), (2, S)), 1), ((5, F), (0, F), (10, S), (2, S)))

    def test_wrong_indices(self):
        for function in (can_swap, led_past):
            for row in ((), ((0, S),), ((0, S), (0, F)), ((0, ()),) * 12):
                for wrong in [len(row) - 1, len(row), -1, 12, *ODD_VALUES]:
                    self.assertIs(type(raised_by(function, row, wrong)), InvalidNumber, (row, wrong))
                for right in range(len(row) - 1):
                    self.assertIsNone(raised_by(function, row, right))
            for wrong in (((101, S), (0, F)), ((0, chain(31)), (0, chain(30)))):
                self.assertIs(type(raised_by(function, wrong, 0)), InvalidGrafts)
