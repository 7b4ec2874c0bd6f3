"""[63]: cuts and primes without order; with [3], [7], [22]."""

import itertools
import unittest

from tests.samples import (
    D, F, S, W, WIDE_KINDS, chain, copies_with_turns, count_parts, doubled, no_numbers, plainly_grown, plainly_grown_by,
    raised_by, small_bushes, wide,
)
from tipwoods.cuts import cuts_of
from tipwoods.errors import InvalidNumber
from tipwoods.formcuts import alike_rows, cut_sizes, form_cut, form_primes
from tipwoods.forms import form_of

G = ("f", S, ())
BUSHES = small_bushes(3) + small_bushes(3, WIDE_KINDS) + small_bushes(5, (("a", 1), ("a", 2))) + [F, S, W, D]
BUSHES = list(dict.fromkeys(BUSHES))


def plain_form(bush):
    return min(copies_with_turns(bush))


def all_form_cuts():
    """The dict, for each form of the bushes, of all pairs of forms, not the tip, of which it comes."""
    forms = sorted({plain_form(bush) for bush in BUSHES})
    found = {form: [] for form in forms}
    for upper, lower in itertools.product(forms, repeat=2):
        if upper and lower and count_parts(upper) + str(upper).count("()") * (count_parts(lower) - 1) <= 11:
            grown = plain_form(plainly_grown(upper, lower))
            if grown in found:
                found[grown].append((upper, lower))
    return found


CUTS = all_form_cuts()


class CutsTest(unittest.TestCase):
    def test_examples(self):
        self.assertEqual(
            [cut_sizes(D), form_cut(D, 4), cut_sizes(("f", S, S)), form_cut(D, 9), cut_sizes(())],
            [((), (4,)), (("a", (), ()), ("a", (), ("a", ()))), ((2,), (2,)), None, ((), ())],
        )
        self.assertEqual([
            form_primes((D, (), S)), alike_rows((D,), (("a", (), ()), ("a", ("a", ()), ()))),
            alike_rows((F, S), (S, F)), form_primes(()),
        ], [(("a", (), ()), ("a", (), ("a", ())), ("s", ())), True, False, ()])

    def test_beside_all_that_is_grown(self):
        for bush in BUSHES:
            cuts = {count_parts(lower): (upper, lower) for upper, lower in CUTS[plain_form(bush)]}
            # There is at most one cut without order of each size.
            self.assertEqual(len(cuts), len(CUTS[plain_form(bush)]))
            with_order = sorted(count_parts(lower) for upper, lower in cuts_of(bush) if upper and lower)
            self.assertEqual(cut_sizes(bush), (tuple(with_order), tuple(sorted(cuts))))
            for size in range(1, count_parts(bush) + 2):
                self.assertEqual(form_cut(bush, size), cuts.get(size))
            # A cut is one without order, too.
            self.assertTrue(set(with_order) <= set(cuts))

    def test_all_copies_have_the_same_cuts(self):
        for bush in BUSHES[::3]:
            sizes = cut_sizes(bush)[1]
            for copy in copies_with_turns(bush):
                self.assertEqual(cut_sizes(copy)[1], sizes)

    def test_upper_bushes_are_forms(self):
        # Cut at the growth, the branches of the upper bush stand in another order than those of the bush.
        growth = ("m", (), ("m", ()))
        upper = ("u", ("b", ()), (), ("z", (), ()))
        bush = plainly_grown(upper, growth)
        self.assertEqual(form_cut(bush, 4), (form_of(upper), growth))
        self.assertEqual(form_of(bush)[1][0], "b")
        self.assertEqual(form_cut(bush, 4)[0][1], ())

    def test_sizes(self):
        for size in no_numbers(1, 400):
            for bush in (D, (), wide(400)):
                self.assertIs(type(raised_by(form_cut, bush, size)), InvalidNumber, size)
        for bush in ((), F, D, W, wide(400), chain(60)):
            many = count_parts(bush)
            for size in {1, many, min(many + 1, 400), 399, 400}:
                self.assertIsNone(form_cut(bush, size) if size >= many or size == 1 else None)

    def test_the_greatest_ones(self):
        self.assertEqual(cut_sizes(chain(60)), (tuple(range(2, 61)),) * 2)
        self.assertEqual(form_cut(chain(60), 60), (S, chain(59)))
        self.assertEqual(cut_sizes(doubled(7)), ((3, 7, 15, 31, 63, 127),) * 2)
        low = ("w", wide(60), ("v", ()), ())
        turned = ("w", (), ("v", ()), wide(60))
        six = ("f", low, turned, low, turned, low, turned)
        self.assertEqual(cut_sizes(six), ((), (count_parts(low),)))
        self.assertEqual(form_cut(six, count_parts(low)), (("f",) + ((),) * 6, form_of(low)))
        self.assertEqual(cut_sizes(wide(400)), ((), ()))


class PrimesTest(unittest.TestCase):
    def test_primes_have_no_cut_and_grow_the_bush(self):
        for bush in BUSHES:
            primes = form_primes((bush,))
            self.assertEqual(plain_form(plainly_grown_by((), primes)), plain_form(bush))
            for prime in primes:
                self.assertEqual(prime, plain_form(prime))
                self.assertNotEqual(prime, ())
                self.assertEqual(CUTS[prime], [])

    def test_primes_of_rows_beside_the_drawn_bush(self):
        few = [F, S, D, G, ("f", (), S), (), W, ("a", ("a", ()), ())]
        rows = [row for many in range(3) for row in itertools.product(few, repeat=many)] + [(F, G, S), (S, D, F)]
        told = {}
        for row in rows:
            bush = plainly_grown_by((), row)
            primes = form_primes(row)
            self.assertEqual(primes, tuple(prime for growth in row for prime in form_primes((growth,))))
            if count_parts(bush) <= 400:
                self.assertEqual(primes, form_primes((bush,)))
                told.setdefault(primes, []).append((row, form_of(bush)))
        forms = [form for found in told.values() for form in {form for row, form in found}]
        self.assertEqual(len(forms), len(set(forms)))
        self.assertEqual(len(forms), len(told))

    def test_rows_alike_beside_the_drawn_bushes(self):
        few = [F, S, G, ("f", (), S), (), W, D, ("a", (), ()), ("a", ("a", ()), ())]
        rows = [row for many in range(3) for row in itertools.product(few, repeat=many)]
        forms = [form_of(plainly_grown_by((), row)) for row in rows]
        for at, row in enumerate(rows):
            for mate, other in enumerate(rows):
                self.assertIs(alike_rows(row, other), forms[at] == forms[mate])

    def test_rows_that_can_not_be_drawn(self):
        self.assertIs(alike_rows((D,) * 12, (form_of(D),) * 12), True)
        self.assertEqual(form_primes((D,) * 12), (("a", (), ()), ("a", (), ("a", ()))) * 12)
        self.assertIs(alike_rows((wide(400),) * 12, (wide(400),) * 11 + (wide(399),)), False)
        self.assertEqual(form_primes((wide(400),) * 12), (form_of(wide(400)),) * 12)
        self.assertEqual(form_primes((chain(60),) * 12), (S,) * 720)
        self.assertIs(alike_rows((chain(60),) * 12, (chain(59),) * 12), False)
        self.assertIs(alike_rows((F,) * 12, (plainly_grown(F, F),) * 6), True)
        self.assertIs(alike_rows((), ((),) * 12), True)
