"""[77]: mixed bushes grown by mixed rows, compared without drawing; with [3], [5], [6], [33]."""

import random
import unittest

from tests.samples import chain, doubled, lesser_first
from tests.test_mixedbushes import B, C, calls_by_chance, change_by_chance, mixed_by_chance, plainly_mixed, tips_as
from tipwoods.mixedalike import grow_alike, mixed_unlike
from tipwoods.mixedbushes import mixed_tip


def roads_in(mixed):
    """The dict of all roads with their parts."""
    found = {(): mixed}
    if type(mixed) is tuple:
        for index, branch in enumerate(mixed[1:]):
            for road, part in roads_in(branch).items():
                found[(index, *road)] = part
    return found


def plainly_unlike(mixed, mate):
    """The least road at which two drawn mixed bushes are unlike."""
    def root(part):
        return (part[0], len(part)) if type(part) is tuple else part
    parts, mates = roads_in(mixed), roads_in(mate)
    unlike = [road for road in parts if road in mates and root(parts[road]) != root(mates[road])]
    return lesser_first(unlike)[0] if unlike else None


def split(chance, sorts, change):
    """Two mixed growths, one behind the other, that are one mixed growth together."""
    order = list(range(sorts))
    chance.shuffle(order)
    named = [order[sort] for sort in range(sorts)]
    first = plainly_mixed(("x", *change), (tuple(named),))[1:]
    return first, tuple(named.index(sort) for sort in range(sorts))


class AlikeTest(unittest.TestCase):
    def test_examples(self):
        self.assertEqual([
            grow_alike(2, 0, (C, C), B, (C,)), mixed_unlike(2, 0, (C, C), B, ((B, 1),)),
            mixed_unlike(1, 0, ((("s", 0),),), 0, ()),
        ], [True, (1,), ()])

    def test_beside_drawn_bushes(self):
        chance = random.Random(3)
        told = []
        for sorts, mixed, row in calls_by_chance(4, 1500):
            drawn = plainly_mixed(mixed, row)
            mate, others = mixed, row
            if chance.random() < 0.5 and row:
                at = chance.randrange(len(row))
                others = (*row[:at], *split(chance, sorts, row[at]), *row[at + 1:])
            if chance.random() < 0.4 and others:
                at = chance.randrange(len(others))
                others = (*others[:at], change_by_chance(chance, sorts), *others[at + 1:])
            if chance.random() < 0.2:
                mate = mixed_by_chance(chance, sorts, 3)
            expected = plainly_unlike(drawn, plainly_mixed(mate, others))
            told.append(expected)
            self.assertEqual(mixed_unlike(sorts, mixed, row, mate, others), expected)
            self.assertEqual(mixed_unlike(sorts, mate, others, mixed, row), expected)
            self.assertIs(grow_alike(sorts, mixed, row, mate, others), expected is None)
        self.assertGreater(told.count(None), 200)
        self.assertGreater(len(set(told)), 12)

    def test_tips_of_unlike_sorts_are_unlike(self):
        self.assertEqual([mixed_unlike(2, 0, (), 1, ()), mixed_unlike(2, 0, (), 0, ()), mixed_unlike(4, 3, (), 3, ())],
                         [(), None, None])
        self.assertEqual(mixed_unlike(2, B, (), ("f", 0, 0), ()), (1,))
        self.assertEqual(mixed_unlike(2, B, (), ("f", 0, ("s", 1)), ()), (1,))
        self.assertEqual(mixed_unlike(2, B, (), ("f", 0), ()), ())
        self.assertEqual(mixed_unlike(2, B, (), ("g", 0, 1), ()), ())
        # The least road has the fewest indices.
        self.assertEqual(mixed_unlike(2, ("f", ("f", 0), 1), (), ("f", ("f", 1), 0), ()), (1,))

    def test_rows_of_unlike_lengths(self):
        double = (("f", 0, 0),)
        self.assertIs(grow_alike(1, 0, (double,) * 12, ("f", 0, 0), (double,) * 11), True)
        self.assertIs(grow_alike(1, 0, (double,) * 12, tips_as(doubled(7), 0), (double,) * 5), False)
        dd = (("d", 0, 0),)
        self.assertIs(grow_alike(1, 0, (dd,) * 12, tips_as(doubled(7), 0), (dd,) * 5), True)
        self.assertIs(grow_alike(1, 0, (dd,) * 12, tips_as(doubled(7), 0), (dd,) * 4), False)
        self.assertEqual(mixed_unlike(1, 0, (dd,) * 12, tips_as(doubled(7), 0), (dd,) * 4), (0,) * 11)
        self.assertIs(grow_alike(3, 2, ((0, 1, 2),) * 12, 2, ()), True)
        self.assertIs(grow_alike(3, 2, ((1, 2, 0),) * 12, 2, ()), True)
        self.assertIs(grow_alike(3, 2, ((1, 2, 0),) * 11, 2, ()), False)

    def test_bushes_that_can_not_be_drawn(self):
        deep = (chain(60, "s", 1), chain(60, "t", 0))
        mate = (chain(60, "s", 1), chain(59, "t", ("u", 0)))
        self.assertEqual(mixed_unlike(2, 0, (deep,) * 12, 0, (deep,) * 11 + (mate,)), (0,) * 719)
        self.assertEqual(mixed_unlike(2, 1, (deep,) * 12, 1, (deep,) * 11 + (mate,)), None)
        self.assertEqual(mixed_unlike(2, 0, (deep,) * 12, 0, (deep,) * 11), (0,) * 660)
        wide = (("f", 0, 1, 0, 1), ("f", 1, 0, 1, 0))
        other = (("f", 0, 1, 0, 1), ("f", 1, 0, 1, 1))
        # The first tip of the sort 1 in the last year but one, and its last branch.
        self.assertEqual(mixed_unlike(2, 0, (wide,) * 12, 0, (wide,) * 11 + (other,)), (0,) * 10 + (1, 3))
        self.assertEqual(mixed_tip(2, 0, (wide,) * 11, 1), (1, (0,) * 10 + (1,)))
        self.assertIs(grow_alike(2, 0, (wide,) * 12, 0, (wide,) * 11 + (other,)), False)
        self.assertIs(grow_alike(2, 0, (wide,) * 12, ("f", 0, 1, 0, 1), (wide,) * 11), True)

    def test_sorts_that_do_not_come_do_not_count(self):
        self.assertIs(grow_alike(4, 0, ((0, 1, 2, 3),), 0, ((0, ("s", 1), 3, ("f", 2)),)), True)
        self.assertIs(grow_alike(2, B, ((1, 1),), B, ((1, 0),)), False)
        # Both sorts come to one, though by unlike rows.
        self.assertIs(grow_alike(2, B, ((1, 0), (0, 0)), B, ((0, 0),)), True)

    def test_parts_that_stand_beside_each_other_again_and_again(self):
        # Chains of 59 and of 60 knots are beside each other at each of their parts.
        one, two = (chain(59, "s", 0),), (chain(60, "s", 0),)
        self.assertEqual(mixed_unlike(1, 0, (one,) * 12, 0, (two,) * 12), (0,) * 708)
        self.assertIsNone(mixed_unlike(1, chain(12, "s", 0), (one,) * 12, 0, (two,) * 12))
        first = (("f", ("f", 0, 1), 1), ("f", 1, ("f", 1, 0)))
        second = (("f", ("f", 1, 0), 0), ("f", 0, ("f", 0, 1)))
        for years in range(1, 8):
            expected = plainly_unlike(plainly_mixed(0, (first,) * years), plainly_mixed(1, (second,) * years))
            self.assertEqual(mixed_unlike(2, 0, (first,) * years, 1, (second,) * years), expected)
