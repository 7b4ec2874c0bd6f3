"""[75]: tops of bushes, what is common to two and what joins them, rows of single knots; with [3], [28], [29], [32]."""

import functools
import itertools
import math
import unittest

from tests.samples import (
    F, S, W, chain, count_parts, doubled, lesser_first, plainly_grown, roads_of, small_bushes, wide,
)
from tests.test_grafts import V, count_tips, plainly_put
from tipwoods.bushes import is_bush, knots_of
from tipwoods.grafts import grafted
from tipwoods.tops import clash_road, common_top, count_knot_rows, count_tops, is_top, joined_tops, lot_between

SMALL = small_bushes(3, (("a", 1), ("a", 2), ("b", 2)))
FEW = small_bushes(2, (("a", 1), ("a", 2), ("b", 2), ("b", 3))) + [W, V, ("f", F, S), ("f", (), ("f", F, ()))]


@functools.lru_cache(maxsize=None)
def all_tops(bush):
    """The set of all bushes of which a bush comes by putting others in the places of tips."""
    if not bush:
        return frozenset([()])
    rows = itertools.product(*[sorted(all_tops(branch)) for branch in bush[1:]])
    return frozenset([(), *[(bush[0], *row) for row in rows]])


@functools.lru_cache(maxsize=None)
def knot_rows(bush, target):
    """How many rows of single knots, with the least numbers told first, make one bush of another one."""
    if bush == target:
        return 1
    found = 0
    for number in range(count_tips(bush)):
        for letter, branches in {(part[0], len(part) - 1) for part in roads_of(target).values() if part}:
            knot = (letter, *[()] * branches)
            below = grafted(bush, ((number, knot),))
            if below in all_tops(target):
                found += knot_rows(below, target)
    return found


class TopsTest(unittest.TestCase):
    def test_examples(self):
        self.assertEqual([
            count_knot_rows(("v", V, V)), count_tops(("v", V, ())), is_top(V, ("v", V, ())),
            lot_between(V, ("v", V, ())),
            common_top(("v", V, ()), ("v", (), V)),
        ], [2, 3, True, ((0, ("v", (), ())),), ("v", (), ())])
        self.assertEqual([
            joined_tops(("v", V, ()), ("v", (), V)), joined_tops(V, ("s", ())),
            clash_road(("v", V, ()), ("v", ("s", ()), V)), count_tops(()),
        ], [("v", ("v", (), ()), ("v", (), ())), None, (0,), 1])

    def test_beside_all_tops(self):
        for bush in SMALL + [W, V, ("f", F, S), doubled(3), chain(9)]:
            self.assertEqual(count_tops(bush), len(all_tops(bush)))
        for bush in SMALL:
            tops = all_tops(bush)
            for other in SMALL[::3] + FEW:
                self.assertIs(is_top(other, bush), other in tops, (other, bush))

    def test_lots(self):
        for bush in SMALL:
            for other in SMALL[::2] + [bush, ()]:
                lot = lot_between(other, bush)
                self.assertIs(lot is None, other not in all_tops(bush))
                if lot is not None:
                    self.assertEqual(list(lot), sorted(lot))
                    self.assertNotIn((), [part for _, part in lot])
                    found = other
                    for number, part in reversed(lot):
                        found = plainly_put(found, number, part)
                    self.assertEqual(found, bush)
        self.assertEqual([lot_between(W, W), lot_between((), ()), lot_between((), W), lot_between(W, ())],
                         [(), (), ((0, W),), None])
        self.assertEqual(lot_between(("f", (), S), ("f", W, ("s", F))), ((0, W), (1, F)))

    def test_grafts_make_a_bush_of_its_tops_alone(self):
        pieces = [(), S, V, ("v", S, ())]
        grafts = [(number, part) for number in range(3) for part in pieces]
        for bush in FEW[:12] + [V, ("v", V, ()), ("s", V)]:
            for row in itertools.product(grafts, repeat=2):
                found = grafted(bush, row)
                if found is not None:
                    self.assertIs(is_top(bush, found), True)
                    self.assertEqual(is_top(found, bush), found == bush)

    def test_common_tops(self):
        for bush in FEW:
            for other in FEW:
                both = all_tops(bush) & all_tops(other)
                greatest = max(both, key=count_parts)
                self.assertEqual(common_top(bush, other), greatest)
                self.assertTrue(both <= all_tops(greatest))

    def test_joined_tops(self):
        told = set()
        pool = {}
        for bush in small_bushes(4, (("a", 1), ("a", 2), ("b", 2))):
            for top in all_tops(bush):
                pool.setdefault(top, set()).add(bush)
        for bush in small_bushes(2, (("a", 1), ("a", 2), ("b", 2))):
            for other in small_bushes(2, (("a", 1), ("a", 2), ("b", 2))):
                both = pool[bush] & pool[other]
                found = joined_tops(bush, other)
                self.assertIs(found is None, not both)
                told.add(found is None)
                if both:
                    self.assertEqual(found, min(both, key=count_parts))
                    self.assertTrue(all(found in all_tops(bigger) for bigger in both))
        self.assertEqual(told, {True, False})

    def test_clashes(self):
        told = set()
        for bush in SMALL + FEW:
            for other in SMALL[::5] + FEW:
                parts, mates = roads_of(bush), roads_of(other)
                clashes = [road for road in lesser_first(parts) if parts[road] and mates.get(road)
                           and (parts[road][0], len(parts[road])) != (mates[road][0], len(mates[road]))]
                expected = clashes[0] if clashes else None
                self.assertEqual(clash_road(bush, other), expected)
                self.assertIs(joined_tops(bush, other) is None, expected is not None)
                told.add(expected)
        self.assertGreater(len(told), 5)
        # The least road has the fewest indices, even if another one stands more to the left.
        left = ("f", ("f", ("f", (), ()), ()), ("s", ()))
        right = ("f", ("f", ("s", ()), ()), ("t", ()))
        self.assertEqual(clash_road(left, right), (1,))
        self.assertEqual([clash_road(F, ("f", (), (), ())), clash_road((), F), clash_road(F, ()), clash_road(W, W)],
                         [(), None, None, None])

    def test_what_is_joined_may_be_too_great_to_be_handed_in(self):
        left, right = ("f", wide(390), ()), ("f", (), wide(390))
        self.assertTrue(is_bush(left) and is_bush(right))
        both = joined_tops(left, right)
        self.assertEqual([both == ("f", wide(390), wide(390)), is_bush(both)], [True, False])

    def test_great_bushes(self):
        self.assertEqual([is_top(chain(59), chain(60)), is_top(chain(60), chain(59)),
                          lot_between(chain(59), chain(60))],
                         [True, False, ((0, S),)])
        self.assertEqual([count_tops(chain(60)), common_top(chain(60), chain(59)), joined_tops(chain(59), chain(60))],
                         [61, chain(59), chain(60)])
        self.assertEqual(clash_road(chain(60), chain(59, "s", ("t", ()))), (0,) * 59)
        many = 1
        for _ in range(7):
            many = many * many + 1
        self.assertEqual(count_tops(doubled(7)), many)
        self.assertEqual([common_top(wide(400), wide(400)) == wide(400), lot_between(wide(400), wide(400))], [True, ()])


class KnotRowsTest(unittest.TestCase):
    def test_beside_all_rows_told_one_by_one(self):
        for bush in SMALL + [W, V, ("v", V, V), ("f", F, S), ("f", W, S), doubled(2), ("v", V, V, V),
                             ("s", ("v", V, ("s", V)))]:
            self.assertEqual(count_knot_rows(bush), knot_rows((), bush), bush)

    def test_edges(self):
        self.assertEqual([count_knot_rows(()), count_knot_rows(S), count_knot_rows(chain(60))], [1, 1, 1])
        self.assertEqual(count_knot_rows(("a", *[S] * 6)), math.factorial(6))
        self.assertEqual(count_knot_rows(("a", *[chain(20)] * 6)), math.factorial(120) // math.factorial(20) ** 6)
        # A perfect bush of seven knots: the root, and both halves of three knots shuffled.
        self.assertEqual(count_knot_rows(doubled(3)), math.comb(6, 3) * 2 * 2)
        self.assertEqual(count_knot_rows(plainly_grown(F, S)), 2)
        great = count_knot_rows(wide(400))
        self.assertEqual(math.factorial(knots_of(wide(400))) % great, 0)
        self.assertGreater(great, 10 ** 60)
