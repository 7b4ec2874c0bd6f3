"""[48]: cuts; with [3], [11]."""

import unittest

from tests.samples import D, F, NO_BUSHES, ODD_VALUES, S, W, chain, doubled, plainly_grown, small_bushes, wide
from tipwoods.bushes import knots_of, near_depth, tips_of
from tipwoods.cuts import cut_above, cut_below, cuts_of, is_cut

SOME = small_bushes(3) + small_bushes(4, (("a", 1), ("a", 2)))


def all_cuts():
    """The dict of the cuts of all bushes of SOME: of each pair of which one comes."""
    found = {bush: [] for bush in SOME}
    sizes = [(bush, knots_of(bush), tips_of(bush)) for bush in dict.fromkeys(SOME)]
    for upper, knots, tips in sizes:
        for lower, more, _ in sizes:
            if knots + tips * more <= 4:
                bush = plainly_grown(upper, lower)
                if bush in found:
                    found[bush].append((upper, lower))
    return found


CUTS = all_cuts()


class CutsTest(unittest.TestCase):
    def test_examples(self):
        self.assertEqual([
            cut_below(W, S), cut_above(W, F), cut_below(("f", S, F), S), cut_above(W, S), cut_below(W, ()),
            cut_above((), ()),
        ], [("f", (), ()), ("s", ()), None, None, ("f", ("s", ()), ("s", ())), ()])
        self.assertEqual([cuts_of(W) == [((), W), (F, S), (W, ())], cuts_of(()), is_cut(W, (F, S)), is_cut(W, [F, S]),
                          is_cut(W, (S, F))], [True, [((), ())], True, False, False])

    def test_beside_all_that_is_grown(self):
        for bush, cuts in CUTS.items():
            expected = sorted(cuts, key=lambda cut: near_depth(cut[0]))
            self.assertEqual(cuts_of(bush), expected)
            depths = [near_depth(upper) for upper, _ in expected]
            self.assertEqual(depths, sorted(set(depths)))
            for upper, lower in cuts:
                self.assertEqual(cut_below(bush, lower), upper)
                self.assertEqual(cut_above(bush, upper), lower)
                self.assertIs(is_cut(bush, (upper, lower)), True)

    def test_no_cuts(self):
        few = small_bushes(2) + [F, S, W]
        for bush in few:
            uppers = dict(CUTS.get(bush, cuts_of(bush)))
            lowers = {lower: upper for upper, lower in uppers.items()}
            for other in few:
                self.assertEqual(cut_above(bush, other), uppers.get(other))
                self.assertEqual(cut_below(bush, other), lowers.get(other))
                for lower in few:
                    self.assertIs(is_cut(bush, (other, lower)), plainly_grown(other, lower) == bush)

    def test_the_tip(self):
        self.assertEqual([cut_below((), ()), cut_below((), S), cut_above((), S), cut_above(S, ()), cut_below(S, S)],
                         [(), None, None, S, ()])

    def test_all_tips_must_have_the_lower_bush(self):
        self.assertIsNone(cut_below(("f", S, ()), S))
        self.assertIsNone(cut_above(("f", S, F), F))
        self.assertIsNone(cut_above(("f", S, ()), F))
        self.assertIsNone(cut_above(("f", S, S, S), F))
        self.assertIsNone(cut_above(("g", S, S), F))
        self.assertIsNone(cut_above(S, ("s", S)))

    def test_a_lower_bush_that_stands_in_itself(self):
        self.assertEqual(cut_below(chain(5), chain(2)), chain(3))
        self.assertEqual(cut_below(("f", chain(3), chain(2)), chain(2)), ("f", S, ()))
        self.assertEqual(cut_below(("f", chain(3), chain(2)), S), ("f", chain(2), S))
        self.assertIsNone(cut_below(("f", chain(3), chain(1)), chain(2)))

    def test_the_greatest_ones(self):
        self.assertEqual(cuts_of(chain(60)), [(chain(knots), chain(60 - knots)) for knots in range(61)])
        self.assertEqual(cuts_of(doubled(7)), [(doubled(many), doubled(7 - many)) for many in range(8)])
        big = wide(400)
        self.assertEqual(cuts_of(big), [((), big), (big, ())])
        six = ("f",) + ((),) * 6
        self.assertEqual(cuts_of(plainly_grown(six, wide(66)))[1], (six, wide(66)))

    def test_near_depths_order_the_cuts(self):
        far = ("f", chain(3), ())
        bush = plainly_grown(plainly_grown(F, far), S)
        self.assertEqual([upper for upper, _ in cuts_of(bush)], [(), F, plainly_grown(F, far), bush])
        self.assertEqual(cuts_of(plainly_grown(("f", chain(9), ()), D))[1], (("f", chain(9), ()), D))

    def test_values_that_are_no_cuts(self):
        for value in NO_BUSHES + ODD_VALUES + [F, S, (F,), (F, S, ()), (F, None), (None, S), [F, S], (F, "s(.)")]:
            self.assertIs(is_cut(W, value), False)
            self.assertIs(is_cut(W, (F, value)), value == S)
            self.assertIs(is_cut(W, (value, S)), value == F)
        self.assertIs(is_cut(W, ((), W)), True)
        self.assertIs(is_cut((), ((), ())), True)
        self.assertIs(is_cut((), ()), False)


class CutsTogetherTest(unittest.TestCase):
    def test_upper_bushes_of_two_cuts_cut_one_another(self):
        for bush in list(CUTS) + [doubled(7), chain(20), plainly_grown(W, W), plainly_grown(D, W)]:
            uppers = [upper for upper, _ in cuts_of(bush)]
            for at, upper in enumerate(uppers):
                for other in uppers[at:]:
                    self.assertIsNotNone(cut_above(other, upper))
