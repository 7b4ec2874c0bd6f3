"""[76]: mixed bushes grown by mixed rows, and their tips; with [33], and [42] for TooMany."""

import random
import unittest

from tests.samples import NO_CHANGES, NO_MIXED, ODD_VALUES, chain, count_parts, depth_of, raised_by, wide
from tipwoods.errors import InvalidMixed, InvalidMixedRow, InvalidNumber, TooMany
from tipwoods.growing import grown
from tipwoods.mixedbushes import are_changes, is_mixed, mixed_grown, mixed_tip, mixed_tips

B, C = ("f", 0, 1), (("f", 0, 1), 0)


def mixed_by_chance(chance, sorts, knots):
    """A mixed bush with at most so many knots."""
    if knots == 0 or chance.random() < 0.2:
        return chance.randrange(sorts)
    many = chance.choice((1, 2, 2, 3))
    return (chance.choice("ab"), *[mixed_by_chance(chance, sorts, (knots - 1) // many) for _ in range(many)])


def change_by_chance(chance, sorts, knots=2):
    return tuple(mixed_by_chance(chance, sorts, chance.randrange(knots + 1)) for _ in range(sorts))


def plainly_mixed(mixed, changes):
    """A mixed bush grown by a mixed row."""
    def replaced(part, change):
        return change[part] if type(part) is int else (part[0], *[replaced(branch, change) for branch in part[1:]])
    for change in changes:
        mixed = replaced(mixed, change)
    return mixed


def tips_with_roads(mixed):
    """The list of the pairs of the sort of each tip and of its road, from the left."""
    if type(mixed) is int:
        return [(mixed, ())]
    return [(sort, (index, *road)) for index, branch in enumerate(mixed[1:]) for sort, road in tips_with_roads(branch)]


def mixed_parts(mixed):
    return 1 if type(mixed) is int else 1 + sum(map(mixed_parts, mixed[1:]))


def tips_as(bush, sort):
    """A bush with all its tips of one sort."""
    return (bush[0], *[tips_as(branch, sort) for branch in bush[1:]]) if bush else sort


def calls_by_chance(seed, many, years=3, knots=2):
    chance = random.Random(seed)
    for _ in range(many):
        sorts = chance.randrange(1, 5)
        row = tuple(change_by_chance(chance, sorts, knots) for _ in range(chance.randrange(years + 1)))
        yield sorts, mixed_by_chance(chance, sorts, chance.randrange(5)), row


class MixedTest(unittest.TestCase):
    def test_what_is_mixed(self):
        for sorts, right in ((1, 0), (2, 1), (4, 3), (1, ("s", 0)), (4, ("f", 3, 2, 1, 0, 0, 1)), (2, B),
                             (2, chain(60, "s", 1)),
                             (2, tips_as(wide(400), 1)), (3, ("a", 2, ("b", 1)))):
            self.assertIs(is_mixed(sorts, right), True)
        for sorts in (1, 2, 3, 4):
            self.assertEqual([is_mixed(sorts, sort) for sort in range(-1, 6)],
                             [False] + [sort < sorts for sort in range(6)])
            self.assertEqual([is_mixed(sorts, ("f", 0, ("s", sort))) for sort in range(6)],
                             [sort < sorts for sort in range(6)])
        for wrong in NO_MIXED + ODD_VALUES + [tips_as(wide(401), 1)]:
            self.assertIs(is_mixed(2, wrong), False, wrong)

    def test_what_is_a_mixed_row(self):
        for sorts, right in ((1, ()), (4, ()), (1, ((0,),)), (2, (C,)), (2, (C,) * 12), (4, ((0, 1, 2, 3),)),
                             (1, ((("s", 0),),)),
                             (2, ((tips_as(wide(400), 1), tips_as(wide(400), 0)),) * 12)):
            self.assertIs(are_changes(sorts, right), True)
        for wrong in NO_CHANGES:
            self.assertIs(are_changes(2, (wrong,)), False, wrong)
            self.assertIs(are_changes(2, (C, wrong)), False, wrong)
        for sorts, wrong in ((1, ((0, 0),)), (2, ((0,),)), (3, (C,)), (2, (C,) * 13), (2, C), (2, [C]), (2, None),
                             (1, ((1,),))):
            self.assertIs(are_changes(sorts, wrong), False)

    def test_wrong_numbers_of_sorts(self):
        for wrong in (0, 5, -1, True, False, None, "2", (2,), 10 ** 119):
            for function, rest in ((is_mixed, (0,)), (are_changes, ((),)), (mixed_grown, (0, ())),
                                   (mixed_tips, (0, ())),
                                   (mixed_tip, (0, (), 0))):
                self.assertIs(type(raised_by(function, wrong, *rest)), InvalidNumber)

    def test_sorts_that_do_not_go_together(self):
        self.assertIs(type(raised_by(mixed_grown, 1, B, ())), InvalidMixed)
        self.assertIs(type(raised_by(mixed_grown, 3, B, (C,))), InvalidMixedRow)
        self.assertIs(type(raised_by(mixed_tips, 2, ("f", 2), ((0,),))), InvalidMixed)
        self.assertIs(type(raised_by(mixed_tip, 2, 0, ((0, 2),), -1)), InvalidMixedRow)


class GrownTest(unittest.TestCase):
    def test_examples(self):
        self.assertEqual([
            mixed_grown(2, B, (C,)), mixed_tips(2, 0, (C,) * 12), mixed_tip(2, B, (C,), 2),
            mixed_grown(2, ("s", 1), ((1, 0), (1, 0))),
        ], [("f", ("f", 0, 1), 0), (233, 144), (0, (1,)), ("s", 1)])

    def test_beside_growing_and_counting_plainly(self):
        for sorts, mixed, row in calls_by_chance(1, 600):
            expected = plainly_mixed(mixed, row)
            tips = tips_with_roads(expected)
            if mixed_parts(expected) <= 400:
                self.assertEqual(mixed_grown(sorts, mixed, row), expected)
            found = [sort for sort, _ in tips]
            self.assertEqual(mixed_tips(sorts, mixed, row), tuple(map(found.count, range(sorts))))
            for number in {*range(0, len(tips), max(1, len(tips) // 7)), len(tips) - 1}:
                self.assertEqual(mixed_tip(sorts, mixed, row, number), tips[number])
            for wrong in (len(tips), -1, True, None):
                self.assertIs(type(raised_by(mixed_tip, sorts, mixed, row, wrong)), InvalidNumber)

    def test_one_sort_is_as_bushes(self):
        for bush, growth in ((wide(20), wide(9)), (chain(30), chain(30)), ((), ("f", (), ())), (("f", (), ()), ())):
            self.assertEqual(mixed_grown(1, tips_as(bush, 0), ((tips_as(growth, 0),),)),
                             tips_as(grown(bush, growth), 0))

    def test_no_growth(self):
        for sorts, mixed in ((1, 0), (4, 3), (2, B), (2, ("f", 1, ("s", 0)))):
            tips = tips_with_roads(mixed)
            self.assertEqual(mixed_grown(sorts, mixed, ()), mixed)
            self.assertEqual(mixed_tips(sorts, mixed, ()),
                             tuple([sort for sort, _ in tips].count(at) for at in range(sorts)))
            self.assertEqual([mixed_tip(sorts, mixed, (), number) for number in range(len(tips))], tips)

    def test_rows_that_can_not_be_drawn(self):
        double = (("f", 0, 0, 1), ("g", 1, 0))
        tips = [1, 0]
        for _ in range(12):
            tips = [2 * tips[0] + tips[1], tips[0] + tips[1]]
        self.assertEqual(mixed_tips(2, 0, (double,) * 12), tuple(tips))
        self.assertEqual(mixed_tip(2, 0, (double,) * 12, 0), (0, (0,) * 12))
        self.assertEqual(mixed_tip(2, 0, (double,) * 12, sum(tips) - 1), (0, (2, 1) * 6))
        self.assertIs(type(raised_by(mixed_tip, 2, 0, (double,) * 12, sum(tips))), InvalidNumber)
        deep = (chain(60, "s", 1), chain(60, "t", 0))
        self.assertEqual(mixed_tip(2, 0, (deep,) * 12, 0), (0, (0,) * 720))
        self.assertEqual(mixed_tips(2, 0, (deep,) * 11), (0, 1))
        great = tips_as(wide(400), 0)
        many = len(tips_with_roads(great))
        self.assertEqual(mixed_tips(1, great, ((great,),) * 12), (many ** 13,))
        number = 10 ** 30 + 12345
        roads = []
        for at in reversed(range(13)):
            roads.append(tips_with_roads(great)[number // many ** at % many][1])
        self.assertEqual(mixed_tip(1, great, ((great,),) * 12, number),
                         (0, tuple(index for road in roads for index in road)))

    def test_too_many_parts_and_too_deep(self):
        great = tips_as(wide(399), 0)
        self.assertEqual(mixed_parts(mixed_grown(2, great, ((0, ("s", 0)),))), 399)
        one = replaced_first(great)
        self.assertEqual(mixed_parts(mixed_grown(2, one, ((0, ("s", 0)),))), 400)
        for row in (((0, ("s", ("s", 0))),), ((0, ("s", 1)), (0, ("s", 1)))):
            self.assertEqual(raised_by(mixed_grown, 2, one, row).limit, 400)
        self.assertEqual(mixed_grown(2, chain(59, "s", 1), ((0, ("s", 0)),)), chain(60, "s", 0))
        self.assertEqual(raised_by(mixed_grown, 2, chain(60, "s", 1), ((0, ("s", 0)),)).limit, 60)
        # The deepest tip is of a sort that does not grow.
        self.assertEqual(depth_of(tips_as_bush(mixed_grown(2, ("f", chain(59, "s", 1), 0), ((("s", 1), 1),)))), 60)
        self.assertEqual(raised_by(mixed_grown, 2, ("f", chain(59, "s", 1), 0), ((0, ("s", 0)),)).limit, 60)
        # A tip alone is at the depth 0, and one that only changes its sort stays where it is.
        self.assertEqual(mixed_grown(1, 0, ((chain(60, "s", 0),),)), chain(60, "s", 0))
        self.assertEqual(raised_by(mixed_grown, 1, 0, ((chain(60, "s", 0),), (("s", 0),))).limit, 60)
        self.assertEqual(raised_by(mixed_grown, 2, chain(60, "s", 0), ((1, 0), (0, ("s", 1)))).limit, 60)
        # The sort 1 grows far, but does not come; and it comes late.
        far = (0, chain(60, "s", 1))
        self.assertEqual(mixed_grown(2, 0, (far,) * 12), 0)
        self.assertEqual(mixed_grown(2, ("f", 0), (far, far, (1, 0), (0, chain(59, "s", 1)))), ("f", chain(59, "s", 1)))
        self.assertEqual(raised_by(mixed_grown, 2, ("f", 0), (far, far, (1, 0), far)).limit, 60)
        # Parts go ahead of depth, whichever year is the first with either.
        wider = ("f", chain(59, "s", 1), 0)
        row = ((0, ("s", 0)), (tips_as(wide(400), 0), 1))
        self.assertEqual(raised_by(mixed_grown, 2, wider, row[:1]).limit, 60)
        self.assertEqual(raised_by(mixed_grown, 2, wider, row).limit, 400)
        self.assertIs(type(raised_by(mixed_grown, 2, wider, row)), TooMany)
        for function in (mixed_tips, mixed_tip):
            self.assertIsNone(raised_by(function, 2, wider, row, *[0][:function is mixed_tip]))

    def test_parts_beside_drawing(self):
        told = set()
        for sorts, mixed, row in calls_by_chance(2, 400, 5, 5):
            drawn = plainly_mixed(mixed, row)
            parts, depth = mixed_parts(drawn), depth_of(tips_as_bush(drawn))
            error = raised_by(mixed_grown, sorts, mixed, row)
            expected = 400 if parts > 400 else 60 if depth > 60 else None
            self.assertEqual(error and error.limit, expected)
            told.add(expected)
        self.assertEqual(told, {None, 400})
        self.assertEqual(count_parts(tips_as_bush(B)), 3)


def replaced_first(mixed):
    """A mixed bush with its first tip of the sort 1."""
    return (mixed[0], replaced_first(mixed[1]), *mixed[2:]) if type(mixed) is tuple else 1


def tips_as_bush(mixed):
    """A mixed bush with "()" for each of its tips."""
    return (mixed[0], *[tips_as_bush(branch) for branch in mixed[1:]]) if type(mixed) is tuple else ()
