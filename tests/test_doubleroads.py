"""[80]: double roads of a stock; with [3], [35]."""

import itertools
import unittest

from tests.samples import D, F, NO_STOCKS, S, W, chain, raised_by, small_bushes, wide
from tests.test_heardroads import A, plainly_heard, stocks_by_chance
from tipwoods.doubleroads import double_road, each_road_tells
from tipwoods.errors import InvalidStock
from tipwoods.heardroads import count_fitting, heard_of

LONG = [
    ("a", ("a", (), ("b", ())), ()), ("b", ("b", (), ()), ("a", ())), ("a", (), ("b", (), ("a", ()))), S,
]


def roads_up_to(stock, steps):
    """The dict of all heard roads of at most so many steps that rows fit, with how many do."""
    found = {(): 1}
    level = {(): 1}
    ways = [heard for growth in stock for heard in plainly_heard(growth)]
    while level:
        below = {}
        for road, many in level.items():
            for way in ways:
                if len(road) + len(way) <= steps:
                    below[road + way] = below.get(road + way, 0) + many
        for road, many in below.items():
            found[road] = found.get(road, 0) + many
        level = below
    return found


def least_double(stock, steps):
    doubles = [road for road, many in roads_up_to(stock, steps).items() if many > 1]
    return min(doubles, key=lambda road: (len(road), road), default=None)


class DoubleTest(unittest.TestCase):
    def test_examples(self):
        self.assertEqual([each_road_tells((F, S)), double_road(A), double_road((S, ("s", S))), double_road((F, F))],
                         [True, (("f", 1),), (("s", 0), ("s", 0)), (("f", 0),)])

    def test_beside_all_heard_roads_of_few_steps(self):
        told = {}
        for stock in stocks_by_chance(3, 500) + [A, (F, S), (W, S), (D, F), (D, ("a", (), ())), (F, ("f", F, F))]:
            expected = least_double(stock, 6)
            found = double_road(stock)
            if expected is None:
                self.assertTrue(found is None or len(found) > 6, (stock, found))
            else:
                self.assertEqual(found, expected, stock)
            self.assertIs(each_road_tells(stock), found is None)
            told[len(found) if found else 0] = told.get(len(found) if found else 0, 0) + 1
        self.assertGreater(min(told.get(size, 0) for size in (0, 1, 2, 3)), 1, told)

    def test_counts_of_double_roads(self):
        for stock in stocks_by_chance(4, 60):
            for road, many in roads_up_to(stock, 4).items():
                self.assertEqual(count_fitting(stock, road), many)
            found = double_road(stock)
            if found is not None:
                self.assertGreater(count_fitting(stock, found), 1)
                self.assertEqual([count_fitting(stock, found[:size]) > 1 for size in range(len(found))],
                                 [False] * len(found))

    def test_one_growth_tells(self):
        for growth in [bush for bush in small_bushes(3) if bush] + [wide(40), chain(39)]:
            self.assertIs(each_road_tells((growth,)), True)
            self.assertIsNone(double_road((growth,)))
            self.assertEqual(double_road((growth, growth)),
                             min(heard_of(growth), key=lambda heard: (len(heard), heard)))

    def test_powers_and_chains(self):
        self.assertEqual(double_road((chain(2), chain(3))), (("s", 0),) * 5)
        self.assertEqual(double_road((chain(4), chain(6))), (("s", 0),) * 10)
        self.assertEqual(double_road((chain(4), chain(8))), (("s", 0),) * 8)
        self.assertEqual(double_road((chain(39), chain(38))), (("s", 0),) * 77)
        self.assertIsNone(double_road((chain(3), chain(3, "t"))))
        self.assertEqual(double_road((chain(3), chain(3, "t"), chain(2, "s", chain(2, "t")))), None)
        self.assertEqual(double_road((chain(2), chain(2, "t"), chain(1, "s", chain(1, "t")),
                                      chain(1, "s", chain(2, "t")),
                                      chain(1, "t", S))), tuple((letter, 0) for letter in "sttstt"))

    def test_rows_that_come_together_late(self):
        # One row is ahead of the other one by some steps, again and again.
        for times in range(1, 9):
            head = chain(1, "a", chain(times, "b"))
            stock = (chain(1, "a"), chain(times, "b"), head)
            self.assertEqual(double_road(stock), (("a", 0),) + (("b", 0),) * times)
        late = (("a", ("b", ())), ("b", ("a", ("b", ()))), ("a", ("b", ("b", ()))), ("b", ("b", ("a", ()))))
        found = double_road(late)
        expected = least_double(late, 10)
        self.assertEqual(found if found is None or len(found) <= 10 else None, expected)
        for size in range(2, 5):
            for stock in itertools.combinations(LONG, size):
                expected = least_double(stock, 7)
                found = double_road(stock)
                self.assertEqual(found if found is None or len(found) <= 7 else None, expected)

    def test_far_double_roads(self):
        # The rows only meet again when both have gone round.
        stock = (chain(1, "a", chain(11, "b")), chain(1, "a", chain(7, "b")), chain(4, "b"))
        found = double_road(stock)
        self.assertEqual(found, (("a", 0),) + (("b", 0),) * 11)
        stock = (chain(1, "a", chain(11, "b")), chain(1, "a", chain(6, "b")), chain(2, "b"))
        self.assertIsNone(double_road(stock))
        stock = (chain(1, "a", chain(11, "b")), chain(1, "a", chain(6, "b")), chain(7, "b"), chain(3, "b"),
                 chain(19, "c"))
        self.assertEqual(double_road(stock), least_double(stock, 22))

    def test_wrong_stocks(self):
        for wrong in NO_STOCKS:
            for function in (each_road_tells, double_road):
                self.assertIs(type(raised_by(function, wrong)), InvalidStock)
