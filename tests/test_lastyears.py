"""[52]: the last years of a bush; with [11], [12], [42]."""

import unittest

from tests.samples import D, F, S, W, chain, doubled, plainly_grown, plainly_grown_by, raised_by, small_bushes, wide
from tipwoods.errors import NoKnot
from tipwoods.lastyears import last_times, regrown

FEW = small_bushes(1) + [F, S, D]


class LastTimesTest(unittest.TestCase):
    def test_examples(self):
        self.assertEqual([last_times(("f", F, F), F), last_times(("s", F), F), last_times(F, S)], [2, 1, 0])

    def test_all_rows_of_three(self):
        for first in FEW:
            for growth in [bush for bush in FEW if bush]:
                for times in range(3):
                    bush = plainly_grown_by(first, (growth,) * times)
                    more = 0 if first != growth else 1
                    self.assertEqual(last_times(bush, growth), times + more)
                self.assertEqual(last_times(plainly_grown(growth, first), growth) > 0, first in ((), growth))

    def test_only_whole_growths_at_the_end_count(self):
        self.assertEqual(last_times(chain(7), chain(2)), 3)
        self.assertEqual(last_times(chain(7), chain(7)), 1)
        self.assertEqual(last_times(chain(7), chain(8)), 0)
        self.assertEqual(last_times(plainly_grown(chain(4), F), S), 0)
        self.assertEqual(last_times((), S), 0)

    def test_the_greatest_ones(self):
        self.assertEqual(last_times(chain(60), S), 60)
        self.assertEqual(last_times(doubled(7), ("d", (), ())), 7)
        self.assertEqual(last_times(wide(400), wide(400)), 1)

    def test_the_tip_is_no_growth_here(self):
        for bush in (F, (), S, wide(400)):
            self.assertIs(type(raised_by(last_times, bush, ())), NoKnot)


class RegrownTest(unittest.TestCase):
    def test_examples(self):
        self.assertEqual([regrown(W, S, F), regrown(F, S, F), regrown(F, (), S)],
                         [("f", ("f", (), ()), ("f", (), ())), None, ("f", ("s", ()), ("s", ()))])

    def test_beside_what_is_grown(self):
        for upper in small_bushes(2):
            for growth in FEW:
                bush = plainly_grown(upper, growth)
                for other in FEW:
                    self.assertEqual(regrown(bush, growth, other), plainly_grown(upper, other))

    def test_no_cut(self):
        for bush, growth in (((), S), (F, S), (("f", S, ()), S), (S, chain(2)), (wide(400), F)):
            for other in ((), F, wide(400), chain(60)):
                self.assertIsNone(regrown(bush, growth, other))

    def test_the_tip(self):
        self.assertEqual([regrown((), (), F), regrown(F, F, ()), regrown(F, (), ()), regrown((), (), ())],
                         [F, (), F, ()])

    def test_too_many(self):
        self.assertEqual(raised_by(regrown, W, S, wide(200)).limit, 400)
        self.assertIsNone(raised_by(regrown, W, S, wide(199)))
        self.assertEqual(raised_by(regrown, chain(60), S, chain(2)).limit, 60)
        self.assertIsNone(raised_by(regrown, chain(60), S, ("t", ())))
        self.assertEqual(raised_by(regrown, chain(60), (), wide(400)).limit, 400)
        self.assertIsNone(raised_by(regrown, wide(400), wide(400), chain(60)))
