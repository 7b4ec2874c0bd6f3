"""[66]: rows that are their own mirrors, and fewest turns; with [3], [24]."""

import itertools
import random
import unittest

from tests.samples import (
    D, F, S, W, WIDE_KINDS, chain, copies_with_turns, doubled, plainly_grown_by, small_bushes, wide,
)
from tipwoods.bushturns import is_own_mirror, mirrored_bush
from tipwoods.forms import form_of
from tipwoods.turnings import fewest_turns, own_mirror_row

G = ("f", S, ())
MANY = small_bushes(3) + small_bushes(5, (("a", 1), ("a", 2))) + small_bushes(4, WIDE_KINDS)[::5] + [F, S, W, D]
LEAVES = [(letter, ()) for letter in "abcdef"]


class MirrorTest(unittest.TestCase):
    def test_examples(self):
        self.assertEqual([
            own_mirror_row((F, S)), own_mirror_row((F, G)), own_mirror_row((D,)), fewest_turns(G, ("f", (), S)),
            fewest_turns(F, S), fewest_turns(D, D), fewest_turns(D, form_of(D)),
        ], [True, False, True, 1, None, 0, 1])

    def test_beside_drawn_bushes(self):
        few = [F, S, G, D, (), ("f", (), S), ("a", F, (), F), ("a", G, ("f", (), S))]
        for many in range(4):
            for row in itertools.product(few, repeat=many):
                bush = plainly_grown_by((), row)
                self.assertIs(own_mirror_row(row), bush == plain_mirror(bush))

    def test_small_bushes(self):
        for bush in MANY:
            self.assertIs(own_mirror_row((bush,)), bush == plain_mirror(bush))
            self.assertIs(own_mirror_row((F, bush, D)), is_own_mirror(bush))

    def test_rows_that_can_not_be_drawn(self):
        self.assertIs(own_mirror_row(()), True)
        self.assertIs(own_mirror_row((doubled(7),) * 12), True)
        self.assertIs(own_mirror_row((doubled(7),) * 11 + (G,)), False)
        self.assertIs(own_mirror_row((G,) + (doubled(7),) * 11), False)
        self.assertIs(own_mirror_row((G, mirrored_bush(G))), False)
        self.assertIs(own_mirror_row((wide(400),) * 12), wide(400) == plain_mirror(wide(400)))


def plain_mirror(bush):
    return (*bush[:1], *map(plain_mirror, bush[:0:-1]))


def shuffled(bush, chance):
    branches = [shuffled(branch, chance) for branch in bush[1:]]
    chance.shuffle(branches)
    return (*bush[:1], *branches)


class TurnsTest(unittest.TestCase):
    def test_beside_turns_counted_one_by_one(self):
        for bush in MANY:
            turns = copies_with_turns(bush)
            for copy, many in list(turns.items())[:60]:
                self.assertEqual(fewest_turns(bush, copy), many)

    def test_bushes_that_are_no_copies(self):
        for bush in MANY[::11]:
            turns = copies_with_turns(bush)
            for other in MANY[::6]:
                self.assertEqual(fewest_turns(bush, other), turns.get(other))

    def test_branches_of_one_form(self):
        # Which one of the branches of one form comes to which place is told by all turns together.
        g, h, d, e = G, ("f", (), S), ("a", S, (), ()), ("a", (), (), S)
        for branches in ((g, h, g), (g, g, h, h), (h, (), g), (g, h, (), g), (d, e, ()), (d, ("a", (), S, ()), e),
                         (h, d, g, e)):
            bush = ("r", *branches)
            for copy, many in copies_with_turns(bush).items():
                self.assertEqual(fewest_turns(bush, copy), many)

    def test_longer_ways_at_one_knot_for_shorter_ones_below(self):
        far = ("x", ("a", ()), ("b", ()), ("c", ()), ("d", ()))
        back = ("x", ("d", ()), ("c", ()), ("b", ()), ("a", ()))
        # Leading the branches past each other takes one turn, turning both round within takes twelve.
        self.assertEqual(fewest_turns(("r", far, back), ("r", back, far)), 1)
        near = ("x", ("b", ()), ("a", ()), ("c", ()), ("d", ()))
        # Past five others it takes more turns than within.
        self.assertEqual(fewest_turns(("r", far, (), (), near), ("r", near, (), (), far)), 2)
        self.assertEqual(fewest_turns(("r", far, (), (), back), ("r", back, (), (), far)), 5)

    def test_six_branches(self):
        knot = ("x", *LEAVES)
        for order in itertools.permutations(range(6)):
            passed = sum(order[at] > order[behind] for at in range(6) for behind in range(at, 6))
            self.assertEqual(fewest_turns(knot, ("x", *[LEAVES[at] for at in order])), passed)
        self.assertEqual(fewest_turns(("x", *[F] * 6), ("x", *[F] * 6)), 0)

    def test_both_ways_take_as_many(self):
        chance = random.Random(6)
        for bush in (("r", D, G, D, ("r", G, ())), ("r", *[("s", *LEAVES[at:]) for at in range(4)], G)):
            for _ in range(20):
                one, other = shuffled(bush, chance), shuffled(bush, chance)
                many = fewest_turns(one, other)
                self.assertEqual(fewest_turns(other, one), many)
                self.assertEqual(fewest_turns(plain_mirror(one), plain_mirror(other)), many)
                self.assertEqual(many == 0, one == other)

    def test_the_greatest_ones(self):
        great = ("g", *[(letter, *[("i", *LEAVES) for _ in range(4)]) for letter in "uvwxyz"])
        other = ("g", *[(letter, *[("i", *LEAVES[::-1]) for _ in range(4)]) for letter in "zyxwvu"])
        self.assertEqual(fewest_turns(great, other), 15 + 24 * 15)
        self.assertEqual([fewest_turns(chain(60), chain(60)), fewest_turns((), ()), fewest_turns((), S)], [0, 0, None])
        self.assertIsNone(fewest_turns(wide(400), wide(399)))
        self.assertIsNone(fewest_turns(chain(60), chain(59)))
        deep = ()
        back = ()
        for _ in range(58):
            deep, back = ("s", deep, S), ("s", S, back)
        self.assertEqual(fewest_turns(deep, back), 58)
