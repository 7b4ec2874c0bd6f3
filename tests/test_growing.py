"""[42]: growing; with [3], [7]."""

import unittest

from tests.samples import F, S, chain, doubled, plainly_grown, plainly_grown_by, raised_by, small_bushes, wide
from tipwoods.errors import TooMany
from tipwoods.growing import bush_of, grown, grown_by, grown_on

DEEP = chain(60)
BIG = wide(400)


class GrownTest(unittest.TestCase):
    def test_examples(self):
        self.assertEqual([
            grown(F, S), grown(S, F), grown((), F), grown(F, ()), grown_by(S, (S, F)), bush_of((S, S)), bush_of(()),
        ], [
            ("f", ("s", ()), ("s", ())), ("s", ("f", (), ())), ("f", (), ()), ("f", (), ()),
            ("s", ("s", ("f", (), ()))), ("s", ("s", ())), (),
        ])
        self.assertEqual(grown_on((), (F, S)), [(), ("f", (), ()), ("f", ("s", ()), ("s", ()))])

    def test_all_pairs_of_small_bushes(self):
        bushes = small_bushes(2)
        for bush in bushes:
            for growth in bushes:
                expected = plainly_grown(bush, growth)
                self.assertEqual(grown(bush, growth), expected)
                self.assertEqual(bush_of((bush, growth)), expected)
                self.assertEqual(grown_by(bush, (growth,)), expected)
                self.assertEqual(grown_on(bush, (growth,)), [bush, expected])

    def test_rows(self):
        for row in ((F, S, F), (S, (), F), ((),) * 12, (S,) * 12, (F,) * 5, (F, (), S, (), (), S)):
            for bush in ((), F, S, ("f", S, ())):
                years = [plainly_grown_by(bush, row[:year]) for year in range(len(row) + 1)]
                self.assertEqual(grown_on(bush, row), years)
                self.assertEqual(grown_by(bush, row), years[-1])
            self.assertEqual(bush_of(row), plainly_grown_by((), row))

    def test_no_growths(self):
        for bush in ((), F, BIG, DEEP):
            self.assertEqual([grown_by(bush, ()), grown_on(bush, ())], [bush, [bush]])


def all_ways(bush, growths):
    """The limits that all four functions tell for a bush grown by a row, which must agree."""
    tries = [raised_by(grown_by, bush, growths), raised_by(grown_on, bush, growths)]
    if len(growths) == 1:
        tries.append(raised_by(grown, bush, growths[0]))
    if len(growths) < 12:
        tries.append(raised_by(bush_of, (bush, *growths)))
    assert all(error is None or type(error) is TooMany for error in tries), tries
    limits = {error.limit if error else None for error in tries}
    assert len(limits) == 1, limits
    return limits.pop()


class TooManyTest(unittest.TestCase):
    def test_four_hundred_parts(self):
        self.assertIsNone(all_ways(BIG, ((),)))
        self.assertIsNone(all_ways((), (BIG,)))
        self.assertIsNone(all_ways(S, (wide(399),)))
        self.assertEqual(all_ways(S, (BIG,)), 400)
        self.assertEqual(all_ways(BIG, (S,)), 400)
        self.assertIsNone(all_ways(S, (S, wide(398))))
        self.assertEqual(all_ways(S, (S, wide(399))), 400)

    def test_the_parts_are_those_of_what_comes(self):
        bush = ("a", ("a", (), ()), ())
        for parts in range(120, 140):
            growth = wide(parts)
            self.assertEqual(all_ways(bush, (growth,)), None if 2 + 3 * parts <= 400 else 400, parts)
            if 2 + 3 * parts <= 400:
                self.assertEqual(grown(bush, growth), plainly_grown(bush, growth))

    def test_depth_sixty(self):
        self.assertIsNone(all_ways(chain(59), (S,)))
        self.assertIsNone(all_ways(DEEP, ((),)))
        self.assertEqual(all_ways(DEEP, (S,)), 60)
        self.assertEqual(all_ways(S, (DEEP,)), 60)
        self.assertEqual(all_ways(("f", (), chain(59)), (S,)), 60)
        self.assertIsNone(all_ways(("f", (), chain(58)), (S,)))
        self.assertEqual(raised_by(bush_of, (chain(5),) * 12), None)
        self.assertEqual(raised_by(bush_of, (chain(5),) * 11 + (chain(6),)).limit, 60)

    def test_parts_come_ahead_of_depth(self):
        # Too deep behind the first year, too many parts only behind the second one.
        self.assertEqual(all_ways(DEEP, (S, doubled(7), F)), 400)
        self.assertEqual(all_ways(DEEP, (S, F)), 60)
        self.assertEqual(all_ways(DEEP, (doubled(7), F)), 400)
        self.assertEqual(all_ways(DEEP, (BIG,)), 400)

    def test_a_year_in_the_middle_counts(self):
        self.assertEqual(all_ways(doubled(7), (F, ())), 400)
        self.assertEqual(all_ways(DEEP, (S, ())), 60)
        self.assertEqual(all_ways(F, (F,) * 11), 400)

    def test_rows_that_grow_beyond_all_bounds(self):
        big = (BIG,) * 12
        for function, arguments in ((bush_of, (big,)), (grown_by, (F, big)), (grown_on, (F, big))):
            self.assertEqual(raised_by(function, *arguments).limit, 400)
