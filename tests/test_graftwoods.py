"""[74]: the wood of a row of grafts, rows led again and again, first roots; with [3], [30], [31]."""

import itertools
import math
import unittest

from tests.samples import F, S, chain, count_parts, raised_by, small_bushes, wide
from tests.test_graftrows import marked_order
from tests.test_grafts import G, PIECES, V, count_tips, plainly_put, rows_by_chance
from tipwoods.errors import InvalidGrafts
from tipwoods.grafts import is_graft_row, lot_of
from tipwoods.graftwoods import are_led, count_led, first_root, wood_of

ROW = ((0, V), (1, V), (4, V), (0, V))


def led_plainly(row, index):
    """The row with a graft and the next one led past each other, None if the later one grows in the earlier one."""
    (number, part), (other, mate) = row[index:index + 2]
    if number <= other < number + count_tips(part):
        return None
    if other < number:
        pair = ((other, mate), (number + count_tips(mate) - 1, part))
    else:
        pair = ((other - count_tips(part) + 1, mate), (number, part))
    return (*row[:index], *pair, *row[index + 2:])


def all_led(row):
    """All rows that come of one by leading neighbours past each other, again and again."""
    found = {row}
    level = [row]
    while level:
        below = {led_plainly(other, index) for other in level for index in range(len(other) - 1)} - {None} - found
        found |= below
        level = sorted(below)
    return found


def plain_wood(grafts):
    """The graft and the spot of each graft, told by the way of its tip."""
    _, places = marked_order(grafts)
    wood = []
    for at, (way, _) in enumerate(places):
        if len(way) == 1:
            wood.append((-1, way[0]))
        else:
            # Of the grafts ahead of it, just one was put at the place from which this way goes on.
            [above] = [index for index in range(at) if (*places[index][0], places[index][1]) == way[:-1]]
            wood.append((above, way[-1]))
    return tuple(wood)


class WoodTest(unittest.TestCase):
    def test_examples(self):
        self.assertEqual([
            wood_of(ROW), count_led(ROW), first_root(("v", ("v", (), ()), ())), first_root(("v", (), V)),
        ], [((-1, 0), (0, 1), (-1, 2), (0, 0)), 8, (("v", (), ()), 2), (("v", (), ("v", (), ())), 1)])

    def test_beside_the_ways_of_tips(self):
        for row in rows_by_chance(8, 800, 7, 7):
            self.assertEqual(wood_of(row), plain_wood(row), row)

    def test_edges(self):
        self.assertEqual([wood_of(()), count_led(()), are_led((), ())], [(), 1, True])
        self.assertEqual([wood_of(((100, S),)), count_led(((100, S),))], [((-1, 100),), 1])
        # A tip that is put in the place of a tip was brought by its graft.
        self.assertEqual(wood_of(((3, ()), (3, ()), (3, S))), ((-1, 3), (0, 0), (1, 0)))
        self.assertEqual(count_led(((3, ()), (3, ()), (3, S))), 1)
        self.assertEqual(count_led(((3, ()), (4, ()), (5, S))), 6)
        self.assertEqual(wood_of(((0, S),) * 12), ((-1, 0), *[(at, 0) for at in range(11)]))
        self.assertEqual(count_led(((0, S),) * 12), 1)
        self.assertEqual(count_led(tuple((at, S) for at in range(12))), math.factorial(12))
        self.assertEqual(count_led(tuple((at, ()) for at in range(89, 101))), math.factorial(12))

    def test_how_many_rows_come_by_leading(self):
        for row in rows_by_chance(9, 400, 6, 5) + [ROW, G, ((0, S), (1, S), (2, S), (3, S), (4, V))]:
            found = all_led(row)
            self.assertEqual(count_led(row), len(found), row)
            for other in sorted(found)[:8]:
                if is_graft_row(other):
                    self.assertEqual(count_led(other), len(found))

    def test_which_rows_come_by_leading(self):
        rows = [row for row in rows_by_chance(10, 150, 3, 3, PIECES[:4])]
        closed = {row: all_led(row) for row in rows}
        for row in rows:
            for other in rows + [order for order in itertools.permutations(row)]:
                self.assertIs(are_led(row, other), other in closed[row], (row, other))
            for other in closed[row]:
                self.assertIs(are_led(row, other), True)
                self.assertIs(are_led(other, row), True)
                self.assertEqual(lot_of(other), lot_of(row))

    def test_numbers_above_100_on_the_way(self):
        row = ((100, S), (0, V))
        self.assertEqual([count_led(row), all_led(row)], [2, {row, ((0, V), (101, S))}])
        # The last graft goes to the front and back, with a number above 100 in between.
        row = ((100, S), (99, F), (0, ()))
        other = ((0, ()), (100, S), (99, F))
        self.assertEqual([count_led(row), are_led(row, other), are_led(other, row)], [6, True, True])
        self.assertIs(type(raised_by(are_led, row, ((99, F), (101, S), (0, ())))), InvalidGrafts)
        self.assertIs(type(raised_by(count_led, ((0, V), (101, S)))), InvalidGrafts)
        both = ((100, wide(200)), (50, wide(199)), (0, ()))
        self.assertEqual([count_led(both), len(all_led(both))], [6, 6])

    def test_alike_but_not_led(self):
        # Both rows do the same to all bushes, but by other grafts.
        one = ((0, ("v", S, ())),)
        two = ((0, V), (0, S))
        self.assertEqual([lot_of(one) == lot_of(two), are_led(one, two)], [True, False])
        self.assertIs(are_led(((0, V), (0, V)), ((0, V), (1, V))), False)
        self.assertIs(are_led(((0, S), (1, F)), ((0, F), (1, S))), False)
        self.assertIs(are_led(((0, S), (1, F)), ((1, F), (0, S))), True)
        self.assertIs(are_led(((0, V), (2, S)), ((1, S), (0, V))), True)
        self.assertIs(are_led(((0, V), (2, S)), ((2, S), (0, V))), False)


class FirstRootTest(unittest.TestCase):
    def test_beside_chaining_again_and_again(self):
        kinds = (("a", 1), ("a", 2), ("b", 2))
        roots = [bush for bush in small_bushes(3, kinds) if bush]
        found = {}
        for root in sorted(roots, key=first_chain):
            bush, times = root, 1
            while count_parts(bush) <= 13:
                found.setdefault(bush, (root, times))
                bush, times = plainly_put(bush, 0, root), times + 1
        for bush, expected in found.items():
            self.assertEqual(first_root(bush), expected, bush)

    def test_edges(self):
        self.assertIsNone(first_root(()))
        self.assertEqual(first_root(S), (S, 1))
        self.assertEqual(first_root(chain(60)), (S, 60))
        self.assertEqual(first_root(chain(59, "s", ("t", ()))), (chain(59, "s", ("t", ())), 1))
        self.assertEqual(first_root(chain(1, "t", chain(59))), (chain(1, "t", chain(59)), 1))
        self.assertEqual(first_root(("v", ("v", (), S), S)), (("v", (), S), 2))
        self.assertEqual(first_root(("v", ("v", (), S), ())), (("v", ("v", (), S), ()), 1))
        self.assertEqual(first_root(("v", ("s", ("v", ("s", ()), F)), F)), (("v", ("s", ()), F), 2))
        three = ("a", ("b", ("a", ("b", ("a", ("b", ()))))))
        self.assertEqual(first_root(three), (("a", ("b", ())), 3))
        self.assertEqual(first_root(("a", three)), (("a", three), 1))
        self.assertEqual(first_root(wide(400))[1], 1)


def first_chain(bush):
    """How many knots the road with indices 0 alone leads through."""
    return 1 + first_chain(bush[1]) if bush else 0
