"""[62]: forms; with [4], [21]."""

import random
import unittest

from tests.samples import (
    D, F, S, W, WIDE_KINDS, chain, copies_with_turns, count_parts, doubled, plain_text, roads_of, small_bushes, wide,
)
from tipwoods.forms import alike_without_order, form_of, unlike_form

MANY = small_bushes(3) + small_bushes(4, (("a", 1), ("a", 2))) + small_bushes(3, WIDE_KINDS) + [F, S, W, D]


def plain_form(bush):
    """The form, as the least of all turned copies."""
    return min(copies_with_turns(bush))


def plain_unlike(bush, other):
    counts = []
    for one in (bush, other):
        forms = [plain_form(part) for part in roads_of(one).values()]
        counts.append({form: forms.count(form) for form in forms})
    unlike = [form for form in {**counts[0], **counts[1]} if counts[0].get(form, 0) != counts[1].get(form, 0)]
    if not unlike:
        return None
    first = min(unlike, key=lambda form: (count_parts(form), plain_text(form)))
    return first, counts[0].get(first, 0), counts[1].get(first, 0)


def shuffled(bush, chance):
    branches = [shuffled(branch, chance) for branch in bush[1:]]
    chance.shuffle(branches)
    return (*bush[:1], *branches)


class FormsTest(unittest.TestCase):
    def test_examples(self):
        self.assertEqual([
            form_of(("f", ("s", ()), ())), alike_without_order(("f", S, ()), ("f", (), S)),
            unlike_form(("f", S, ()), ("f", (), S)), unlike_form(F, S),
        ], [("f", (), ("s", ())), True, None, ((), 2, 1)])
        self.assertEqual(unlike_form(("f", ("f", (), S), ()), ("f", F, S)), (("f", (), ()), 0, 1))

    def test_forms_beside_all_turned_copies(self):
        for bush in MANY:
            form = form_of(bush)
            self.assertEqual(form, plain_form(bush))
            self.assertIn(form, copies_with_turns(bush))
            for part in roads_of(form).values():
                self.assertEqual(list(part[1:]), sorted(part[1:]))
            self.assertEqual(form_of(form), form)

    def test_alike_beside_all_turned_copies(self):
        for bush in MANY[::3]:
            copies = copies_with_turns(bush)
            for other in MANY[::4]:
                self.assertIs(alike_without_order(bush, other), other in copies)
            for copy in copies:
                self.assertIs(alike_without_order(copy, bush), True)
                self.assertIsNone(unlike_form(copy, bush))

    def test_unlike_forms_beside_all_parts(self):
        for bush in MANY[::5]:
            for other in MANY[::7]:
                self.assertEqual(unlike_form(bush, other), plain_unlike(bush, other))

    def test_branches_of_one_letter_and_unlike_numbers(self):
        a, b, bb = ("a", ()), ("b", ()), ("b", (), ())
        self.assertEqual(form_of(("a", bb, b, a, ())), ("a", (), a, b, bb))
        self.assertEqual(form_of(("a", ("b", ("c", ())), ("b", (), ()))), ("a", ("b", (), ()), ("b", ("c", ()))))
        self.assertIs(alike_without_order(("a", (), ()), ("a", ())), False)
        self.assertIs(alike_without_order(("a", (), ()), ("b", (), ())), False)

    def test_equal_branches_count_as_often_as_they_come(self):
        one, other = ("a", S, S, F), ("a", S, F, F)
        self.assertIs(alike_without_order(one, other), False)
        self.assertEqual(unlike_form(one, other), ((), 4, 5))
        self.assertEqual(unlike_form(("a", S, S, F, ()), ("a", S, F, F)), (S, 2, 1))
        self.assertEqual(unlike_form(("a", S, F), ("b", S, F)), (("a", F, S), 1, 0))
        self.assertEqual(unlike_form(("b", S, F), ("a", S, F)), (("a", F, S), 0, 1))

    def test_the_first_unlike_form_has_the_fewest_parts(self):
        self.assertEqual(unlike_form(("z", ("y", ())), ("a", ("y", ()))), (("a", ("y", ())), 0, 1))
        self.assertEqual(unlike_form(("a", ("y", ())), ("z", ("y", ()))), (("a", ("y", ())), 1, 0))
        b = ("b", ("b", ()))
        self.assertEqual(unlike_form(("a", ("z", ()), b), ("a", ("c", ()), b)), (("c", ()), 0, 1))
        self.assertEqual(unlike_form((), F), ((), 1, 2))
        self.assertEqual(unlike_form((), S), (("s", ()), 0, 1))

    def test_the_tip(self):
        self.assertEqual([form_of(()), alike_without_order((), ()), unlike_form((), ())], [(), True, None])
        self.assertEqual([alike_without_order((), S), alike_without_order(S, ())], [False, False])

    def test_the_greatest_ones(self):
        chance = random.Random(1)
        both = ("f", wide(100), wide(99), wide(101), wide(98))
        for bush in (wide(400), chain(60), doubled(7), ("f", *[chain(59)] * 6), both):
            other = shuffled(bush, chance)
            self.assertEqual(form_of(bush), form_of(other))
            self.assertIs(alike_without_order(bush, other), True)
            self.assertIsNone(unlike_form(bush, other))
        self.assertIs(alike_without_order(wide(400), wide(399)), False)
        self.assertEqual(unlike_form(chain(60), chain(59)), (chain(60), 1, 0))
        self.assertEqual(unlike_form(chain(60), chain(60, "t")), (("s", ()), 1, 0))
