"""[64]: turned copies; with [7], [21]."""

import itertools
import math
import random
import unittest

from tests.samples import (
    D, F, S, W, WIDE_KINDS, chain, copies_with_turns, count_parts, doubled, no_numbers, plainly_grown_by, raised_by,
    small_bushes, wide,
)
from tipwoods.errors import InvalidNumber, TooMany
from tipwoods.turnedcopies import all_copies, copy_number, count_copies, row_copies

G = ("f", S, ())
MANY = small_bushes(3) + small_bushes(5, (("a", 1), ("a", 2))) + small_bushes(4, WIDE_KINDS)[::3] + [F, S, W, D]
MANY += [("r", G, S, ()), ("r", G, S, (), F, ("f", (), S)), ("a", ("a", ()), ("a", (), ()), ("a", (), ("a", ())), ())]
LEAVES = [(letter, ()) for letter in "abcdef"]
SIX = ("x", *LEAVES)


class CopiesTest(unittest.TestCase):
    def test_examples(self):
        self.assertEqual([
            count_copies(G), all_copies(G), copy_number(G), count_copies(D), row_copies((F, G), 10 ** 9),
            row_copies((G,) * 12, 7),
        ], [2, [("f", (), ("s", ())), ("f", ("s", ()), ())], 1, 4, 4, 1])

    def test_beside_all_that_is_turned(self):
        for bush in MANY:
            copies = sorted(copies_with_turns(bush))
            self.assertEqual(count_copies(bush), len(copies))
            self.assertEqual(copy_number(bush), copies.index(bush))
            if len(copies) <= 500:
                self.assertEqual(all_copies(bush), copies)

    def test_numbers_of_all_copies(self):
        for bush in (SIX, ("r", G, G, ("f", (), S), S), ("r", D, D), ("a", ("a", (), ()), ("a", ()), ("a", (), S), ())):
            copies = sorted(copies_with_turns(bush))
            for number, copy in enumerate(copies):
                self.assertEqual(copy_number(copy), number)
                self.assertEqual(count_copies(copy), len(copies))

    def test_branches_of_which_one_is_the_beginning_of_another_one(self):
        # Two knots with the same letter and unlike numbers of branches, one going on where the other one ends.
        short, long = ("k", ("a", ()), ("b", ())), ("k", ("a", ()), ("b", ()), ("c", ()))
        copies = sorted(copies_with_turns(("r", short, long, ("k", ("b", ())))))
        for number, copy in enumerate(copies):
            self.assertEqual(copy_number(copy), number)

    def test_few_and_many_copies(self):
        self.assertEqual([count_copies(SIX), copy_number(SIX), copy_number(("x", *LEAVES[::-1]))], [720, 0, 719])
        self.assertEqual([count_copies(("x", *[S] * 6)), all_copies(("x", *[S] * 6))], [1, [("x", *[S] * 6)]])
        self.assertEqual([count_copies(()), all_copies(()), copy_number(())], [1, [()], 0])
        self.assertEqual([count_copies(chain(60)), all_copies(chain(60)), copy_number(chain(60))], [1, [chain(60)], 0])

    def test_five_hundred_copies_and_more(self):
        # A knot with so many tips, and one branch more, stands in so many orders and one more.
        two, five = ("k", (), ()), ("k", (), (), (), (), ())
        for knots, many in (([five] * 3 + [two] * 2, 500), ([two] * 8, 256), ([two, five, two, five, five], 500),
                            ([two] * 9, 512), ([five] * 4, 625), ([two] * 58, 2 ** 58)):
            bush = chained(knots)
            self.assertEqual(count_copies(bush), many)
            if many <= 500:
                self.assertEqual(all_copies(bush), sorted(copies_with_turns(bush)))
                self.assertEqual(len(all_copies(bush)), many)
            else:
                error = raised_by(all_copies, bush)
                self.assertEqual((type(error), error.limit), (TooMany, 500))
        self.assertEqual(raised_by(all_copies, SIX).limit, 500)
        self.assertEqual(len(all_copies(("x", *LEAVES[:4], LEAVES[0], LEAVES[1]))), 180)

    def test_the_greatest_ones(self):
        chance = random.Random(3)
        bush = ("r", *[(letter, *LEAVES, ) for letter in "uvwxyz"])
        self.assertEqual(count_copies(bush), 720 ** 7)
        last = ("r", *[(letter, *LEAVES[::-1]) for letter in "zyxwvu"])
        self.assertEqual([copy_number(bush), copy_number(last)], [0, 720 ** 7 - 1])
        great = ("g", *[("h", *[("i", *LEAVES[at:]) for at in range(5)]) for _ in range(6)])
        self.assertLessEqual(count_parts(great), 400)
        inner = math.factorial(5) * math.prod(math.factorial(6 - at) for at in range(5))
        self.assertEqual(count_copies(great), inner ** 6)
        for _ in range(5):
            turned = shuffled(great, chance)
            self.assertEqual(count_copies(turned), inner ** 6)
            self.assertEqual(copy_number(turned), plain_number(turned))
        self.assertEqual(copy_number(doubled(7)), 0)


def chained(knots):
    """The bush in which each knot of a list stands at the last tip of the one ahead of it, and S at the last one."""
    bush = S
    for knot in reversed(knots):
        bush = (*knot[:-1], bush)
    return bush


def shuffled(bush, chance):
    branches = [shuffled(branch, chance) for branch in bush[1:]]
    chance.shuffle(branches)
    return (*bush[:1], *branches)


def plain_number(bush):
    """How many copies of a bush are less than it, counted branch by branch."""
    def form(part):
        return (*part[:1], *sorted(map(form, part[1:])))

    def many(part):
        forms = [form(branch) for branch in part[1:]]
        found = math.factorial(len(forms))
        for one in set(forms):
            found //= math.factorial(forms.count(one))
        return found * math.prod(many(branch) for branch in part[1:])

    def lesser(part, other):
        """How many copies of a part are less than the other one."""
        if not part or not other or part[0] != other[0]:
            return many(part) if (part[:1] < other[:1]) else 0
        found = 0
        branches = list(part[1:])
        for branch in other[1:]:
            if not branches:
                return found + 1
            for one in set(map(form, branches)):
                rest = list(branches)
                rest.remove(next(each for each in branches if form(each) == one))
                found += lesser(one, branch) * many((part[0], *rest))
            same = [each for each in branches if form(each) == form(branch)]
            if not same:
                return found
            branches.remove(same[0])
        return found
    return lesser(bush, bush)


class RowsTest(unittest.TestCase):
    def test_beside_drawn_bushes(self):
        few = [F, S, G, D, (), W, ("a", (), F), SIX]
        for many in range(4):
            for row in itertools.product(few, repeat=many):
                bush = plainly_grown_by((), row)
                if count_parts(bush) <= 400 and (many < 3 or row[0] != SIX):
                    for modulus in (2, 3, 7, 10, 10 ** 9 - 1, 10 ** 9):
                        self.assertEqual(row_copies(row, modulus), count_copies(bush) % modulus)

    def test_rows_that_can_not_be_drawn(self):
        three = ("t", S, (), ())
        self.assertEqual(row_copies((three,) * 12, 10 ** 9), pow(3, sum(3 ** at for at in range(12)), 10 ** 9))
        self.assertEqual(row_copies((F,) * 12, 10 ** 9), 1)
        self.assertEqual(row_copies((F,) * 11 + (G,), 10 ** 9 - 1), pow(2, 2 ** 11, 10 ** 9 - 1))
        self.assertEqual(row_copies((G,) + (F,) * 11, 10 ** 9 - 1), 2)
        self.assertEqual(row_copies((wide(400),) * 11 + (G,), 999999937), many_of_wide(999999937))

    def test_moduli(self):
        self.assertEqual([row_copies((), 2), row_copies((), 10 ** 9)], [1, 1])
        self.assertEqual([row_copies((G,), 2), row_copies((G,), 3)], [0, 2])
        for modulus in no_numbers(2, 10 ** 9):
            for row in ((), (G,), (wide(400),) * 12):
                self.assertIs(type(raised_by(row_copies, row, modulus)), InvalidNumber, modulus)


def many_of_wide(modulus):
    tips = str(wide(400)).count("()")
    found = 1
    for at in range(11):
        found = found * pow(count_copies(wide(400)), tips ** at, modulus) % modulus
    return found * pow(2, tips ** 11, modulus) % modulus
