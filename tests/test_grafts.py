"""[72]: rows of grafts, what bushes come to by them, needs and lots; with [3], [28], [29]."""

import itertools
import random
import unittest

from tests.samples import (
    F, NO_GRAFTS, ODD_VALUES, S, W, chain, count_parts, depth_of, doubled, raised_by, roads_of, small_bushes, wide,
)
from tipwoods.grafts import grafted, is_graft_row, lot_of, need_of

V = ("v", (), ())
G = ((1, V), (1, S))
BUSHES = small_bushes(3)[::7] + [F, S, W, V, ("f", W, F), ("v", (), ("v", (), ()), ()), chain(3, "s", F)]
PIECES = [(), S, V, ("v", S, ()), ("v", (), (), ()), ("s", V), ("t", ("s", ()))]


def count_tips(bush):
    return sum(map(count_tips, bush[1:])) if bush else 1


def plainly_put(bush, number, part):
    """What a bush comes to with a part in the place of the tip with a number, None without such a tip."""
    if not bush:
        return part if number == 0 else None
    branches = list(bush[1:])
    for at, branch in enumerate(branches):
        if number < count_tips(branch):
            branches[at] = plainly_put(branch, number, part)
            return (bush[0], *branches)
        number -= count_tips(branch)
    return None


def plainly_grafted(bush, grafts):
    for number, part in grafts:
        if bush is not None:
            bush = plainly_put(bush, number, part)
    return bush


def rows_by_chance(seed, many, most_number=4, most_grafts=4, pieces=PIECES):
    chance = random.Random(seed)
    return [tuple((chance.randrange(most_number + 1), chance.choice(pieces))
                  for _ in range(chance.randrange(most_grafts + 1)))
            for _ in range(many)]


def by_lot(bush, lot):
    """The bush with the bushes of a lot in the places of its tips."""
    for number, part in reversed(lot):
        bush = plainly_put(bush, number, part)
    return bush


class RowsTest(unittest.TestCase):
    def test_what_a_row_is(self):
        for right in ((), G, ((0, ()),), ((100, F),), ((0, ()),) * 12, ((0, wide(400)),), ((0, chain(60)),),
                      ((0, wide(200)), (100, wide(200))), ((0, chain(30)), (0, chain(30)), (1, ())),
                      ((0, ()),) * 11 + ((0, wide(389)),)):
            self.assertIs(is_graft_row(right), True)
            self.assertIsNone(raised_by(need_of, right))
        for wrong in NO_GRAFTS + ODD_VALUES + [((0, ()),) * 11 + ((0, wide(390)),)]:
            self.assertIs(is_graft_row(wrong), False, wrong)

    def test_parts_and_heights_in_all(self):
        self.assertEqual([is_graft_row(((0, wide(many)), (3, wide(401 - many)))) for many in (1, 150, 400)],
                         [False] * 3)
        self.assertEqual([is_graft_row(((0, wide(many)), (3, wide(400 - many)))) for many in (1, 150, 399)], [True] * 3)
        self.assertEqual([is_graft_row(((0, chain(many)), (3, chain(61 - many)))) for many in (1, 7, 60)], [False] * 3)
        self.assertEqual([is_graft_row(((0, chain(many)), (3, chain(60 - many)))) for many in (0, 7, 60)], [True] * 3)
        self.assertIs(is_graft_row(((0, chain(20)),) * 3), True)
        self.assertIs(is_graft_row(((0, chain(20)),) * 3 + ((0, S),)), False)


class GraftedTest(unittest.TestCase):
    def test_examples(self):
        self.assertEqual([
            grafted(V, G), grafted((), G), grafted((), ((0, V), (2, V))), need_of(G), lot_of(G), need_of(((4, ()),)),
            lot_of(((4, ()),)),
        ], [("v", (), ("v", ("s", ()), ())), None, None, 2, ((1, ("v", ("s", ()), ())),), 5, ()])

    def test_beside_doing_them_one_by_one(self):
        for row in rows_by_chance(1, 300):
            for bush in BUSHES:
                self.assertEqual(grafted(bush, row), plainly_grafted(bush, row), (bush, row))
        for row in itertools.product([(number, part) for number in range(3) for part in PIECES[:4]], repeat=2):
            for bush in BUSHES[::3]:
                self.assertEqual(grafted(bush, row), plainly_grafted(bush, row), (bush, row))

    def test_one_graft_replaces_one_tip(self):
        for bush in BUSHES:
            roads = sorted(road for road, part in roads_of(bush).items() if not part)
            for number, road in enumerate(roads):
                found = roads_of(grafted(bush, ((number, W),)))
                self.assertEqual(found[road], W)
                self.assertEqual([other for other in roads if found.get(other) == ()],
                                 roads[:number] + roads[number + 1:])
            self.assertIsNone(grafted(bush, ((len(roads), W),)))

    def test_no_graft_and_the_tip(self):
        for bush in BUSHES + [(), wide(400), chain(60)]:
            self.assertEqual(grafted(bush, ()), bush)
            self.assertEqual(grafted(bush, ((0, ()),)), bush)
            self.assertEqual(grafted(bush, ((0, ()),) * 12), bush)
            self.assertEqual(grafted((), ((0, bush),)), bush)
        self.assertEqual([grafted((), ((1, ()),)), grafted(F, ((1, ()),)), grafted(F, ((2, ()),))], [None, F, None])
        # A row is refused as a whole, even if its first grafts find their tips.
        self.assertIsNone(grafted(F, ((0, W), (9, ()))))

    def test_what_can_not_be_handed_in_is_returned(self):
        found = grafted(wide(400), ((0, wide(400)),))
        self.assertEqual(count_parts(found), 799)
        self.assertEqual(found, plainly_put(wide(400), 0, wide(400)))
        self.assertEqual(grafted(chain(60), ((0, chain(60, "t")),)), chain(60, "s", chain(60, "t")))
        self.assertEqual(depth_of(grafted(chain(60), ((0, chain(60)),))), 120)
        self.assertEqual(grafted(chain(60), ((0, chain(5, "t")),) * 12), chain(60, "s", chain(60, "t")))

    def test_numbers_0_and_100(self):
        bush = wide(400)
        tips = count_tips(bush)
        self.assertGreater(tips, 101)
        for number in (0, 99, 100):
            self.assertEqual(grafted(bush, ((number, F),)), plainly_put(bush, number, F))
        hundred = ("a", *[("b", *[("c", ())] * 4, *[("c", (), ())] * 2)] * 6, )
        self.assertEqual(count_tips(hundred), 48)
        both = ("a", hundred, hundred, ("c", (), (), (), ()))
        self.assertEqual(count_tips(both), 100)
        self.assertIsNone(grafted(both, ((100, ()),)))
        self.assertEqual(grafted(both, ((99, S),)), ("a", hundred, hundred, ("c", (), (), (), S)))
        self.assertEqual(grafted(both, ((0, F), (100, S))), plainly_grafted(both, ((0, F), (100, S))))
        self.assertIsNotNone(grafted(both, ((0, F), (100, S))))


class NeedAndLotTest(unittest.TestCase):
    def test_each_bush_with_so_many_tips_takes_a_row(self):
        for row in rows_by_chance(2, 200):
            need = need_of(row)
            for bush in BUSHES:
                self.assertIs(grafted(bush, row) is not None, count_tips(bush) >= need, (bush, row))

    def test_the_lot_tells_what_stands_in_the_places_of_tips(self):
        for row in rows_by_chance(3, 200):
            lot = lot_of(row)
            self.assertIs(type(lot), tuple)
            self.assertEqual(list(lot), sorted(lot))
            self.assertTrue(all(part for _, part in lot))
            self.assertEqual(len({number for number, _ in lot}), len(lot))
            for bush in BUSHES:
                if count_tips(bush) >= need_of(row):
                    self.assertEqual(by_lot(bush, lot), grafted(bush, row), (bush, row))

    def test_edges(self):
        self.assertEqual([need_of(()), lot_of(())], [1, ()])
        self.assertEqual([need_of(((0, ()),)), lot_of(((0, ()),))], [1, ()])
        self.assertEqual([need_of(((100, S),)), lot_of(((100, S),))], [101, ((100, S),)])
        self.assertEqual([need_of(((100, ()),) * 12), lot_of(((100, ()),) * 12)], [101, ()])
        self.assertEqual(need_of(((0, V),) * 12), 1)
        self.assertEqual(lot_of(((0, S),) * 12), ((0, chain(12)),))
        # Each graft brings a tip more, so that the next number is there, too.
        row = ((99, V), (100, V), (100, S), (98, S))
        self.assertEqual([need_of(row), lot_of(row)], [100, ((98, S), (99, ("v", (), ("v", S, ()))))])
        self.assertEqual(lot_of(((3, V), (1, S), (0, F), (0, ()))), ((0, F), (1, S), (3, V)))

    def test_lots_with_more_than_400_parts_or_tips_deeper_than_60(self):
        row = ((0, wide(200)), (0, wide(200)))
        self.assertEqual([count_parts(part) for _, part in lot_of(row)], [399])
        row = tuple((0, chain(5)) for _ in range(12))
        self.assertEqual(lot_of(row), ((0, chain(60)),))
