"""[79]: heard roads, and the rows of a stock that fit them; with [35], [40]."""

import itertools
import random
import unittest

from tests.samples import (
    D, F, NO_HEARDS, NO_STOCKS, ODD_VALUES, S, W, chain, doubled, plainly_grown_by, raised_by, roads_of, small_bushes,
    wide,
)
from tipwoods.errors import InvalidGrowths, InvalidHeard, InvalidStock, TooMany
from tipwoods.heardroads import (
    count_fitting, first_fitting, heard_of, heard_so_far, is_heard, is_stock, row_fits, rows_fitting,
)

A = (F, S, ("f", S, ()))
LINE = (("s", 0),) * 60


def plainly_heard(bush):
    """The heard roads of all tips, told by the letters of the parts on their roads."""
    parts = roads_of(bush)
    return [tuple((parts[road[:at]][0], index) for at, index in enumerate(road))
            for road in sorted(road for road, part in parts.items() if not part)]


def stocks_by_chance(seed, many, most=3):
    chance = random.Random(seed)
    pieces = [bush for bush in small_bushes(2, (("a", 1), ("a", 2), ("b", 2))) if bush]
    return [tuple(chance.choice(pieces) for _ in range(chance.randrange(1, most + 1))) for _ in range(many)]


def rows_by_roads(stock, years):
    """The dict of all rows of at most so many indices that fit each heard road, told by the drawn bushes."""
    found = {}
    for many in range(years + 1):
        for row in itertools.product(range(len(stock)), repeat=many):
            for heard in plainly_heard(plainly_grown_by((), [stock[index] for index in row])):
                found.setdefault(heard, []).append(row)
    return found


class HeardTest(unittest.TestCase):
    def test_examples(self):
        self.assertEqual([
            heard_of(("f", S, ())), row_fits(A, (0, 1), (("f", 0), ("s", 0))), first_fitting(A, (("f", 0), ("s", 0))),
            count_fitting(A, (("f", 0), ("s", 0))),
        ], [[(("f", 0), ("s", 0)), (("f", 1),)], True, (2,), 2])
        self.assertEqual([
            heard_so_far(A, (("f", 1), ("g", 0))), rows_fitting(A, ((("f", 1),), (("f", 0), ("s", 0)))),
            rows_fitting(A, ((("f", 1),), (("s", 0),))),
        ], [1, [(2,)], []])

    def test_what_is_heard_and_what_is_a_stock(self):
        for right in ((), (("f", 0),), (("a", 5), ("z", 0)), LINE):
            self.assertIs(is_heard(right), True)
        for wrong in NO_HEARDS + ODD_VALUES:
            self.assertIs(is_heard(wrong), False, wrong)
        for right in ((F,), (F,) * 6, A, (wide(40),) * 6, (chain(39),), (F, F, S)):
            self.assertIs(is_stock(right), True)
        for wrong in NO_STOCKS + ODD_VALUES:
            self.assertIs(is_stock(wrong), False, wrong)

    def test_heard_of_all_tips(self):
        for bush in small_bushes(3) + [F, S, W, D, wide(400), chain(60), doubled(7), ("f", (), F, (), S, (), W)]:
            self.assertEqual(heard_of(bush), plainly_heard(bush))
        self.assertEqual([heard_of(()), heard_of(chain(60))], [[()], [LINE]])


class FittingTest(unittest.TestCase):
    def test_beside_all_rows_of_few_years(self):
        for stock in stocks_by_chance(1, 12):
            found = rows_by_roads(stock, 3)
            for heard, rows in found.items():
                # No growth leads along no step, so that rows of few years fit few steps.
                if len(heard) <= 3:
                    self.assertEqual(count_fitting(stock, heard), len(rows), (stock, heard))
                    self.assertEqual(first_fitting(stock, heard), min(rows, key=lambda row: (len(row), row)))
                    self.assertEqual(rows_fitting(stock, (heard,)), sorted(rows))
                    self.assertEqual(rows_fitting(stock, (heard,) * 6), sorted(rows))
                for row in rows:
                    self.assertIs(row_fits(stock, row, heard), True)
            steps = [(letter, index) for letter in "ab" for index in range(3)]
            for heard in itertools.product(steps, repeat=3):
                rows = found.get(heard, [])
                self.assertEqual(count_fitting(stock, heard), len(rows))
                least = min(rows, key=lambda row: (len(row), row), default=None)
                self.assertEqual(first_fitting(stock, heard), least)
                far = max(size for size in range(4) if heard[:size] in found)
                self.assertEqual(heard_so_far(stock, heard), far)
                for many in range(4):
                    for row in itertools.product(range(len(stock)), repeat=many):
                        self.assertIs(row_fits(stock, row, heard), row in rows)

    def test_several_heard_roads(self):
        told = set()
        chance = random.Random(5)
        for stock in stocks_by_chance(2, 60):
            found = rows_by_roads(stock, 3)
            short = [heard for heard in found if len(heard) <= 3]
            for _ in range(40):
                heards = tuple(chance.choice(short) for _ in range(chance.randrange(1, 7)))
                if chance.random() < 0.7:
                    row = chance.choice(found[heards[0]])
                    fitting = [heard for heard in short if row in found[heard]]
                    heards = tuple(chance.choice(fitting) for _ in range(chance.randrange(1, 7)))
                expected = sorted(set.intersection(*[set(found[heard]) for heard in heards]))
                self.assertEqual(rows_fitting(stock, heards), expected, (stock, heards))
                told.add(min(len(expected), 3))
        self.assertEqual(told, {0, 1, 2, 3})

    def test_rows_that_can_not_be_drawn(self):
        chance = random.Random(6)
        stock = (W, D, ("w", F, S, F, ("t", (), D)), ("f", (), ("f", (), ())), ("a", (), (), ()), S)
        for _ in range(60):
            row, heard = [], ()
            while True:
                index = chance.randrange(6)
                more = chance.choice(plainly_heard(stock[index]))
                if len(heard) + len(more) > 60:
                    break
                row.append(index)
                heard += more
            self.assertIs(row_fits(stock, tuple(row), heard), True)
            self.assertIs(row_fits(stock, tuple(row[:-1]), heard), False)
            self.assertIs(row_fits(stock, (*row, 0)[:60], heard), False)
            self.assertGreaterEqual(count_fitting(stock, heard), 1)
            self.assertEqual(heard_so_far(stock, heard), len(heard))
            far = max(size for size in range(min(60, len(heard) + 1)) if first_fitting(stock, heard[:size]) is not None)
            self.assertEqual(heard_so_far(stock, (*heard[:59], ("q", 0))), far)
            self.assertIs(row_fits(stock, first_fitting(stock, heard), heard), True)

    def test_0_and_60_steps(self):
        for stock in (A, (F,), (S,) * 6):
            self.assertEqual([first_fitting(stock, ()), count_fitting(stock, ()), heard_so_far(stock, ())], [(), 1, 0])
            self.assertEqual([rows_fitting(stock, ((),)), rows_fitting(stock, ((),) * 6), row_fits(stock, (), ())],
                             [[()], [()], True])
            self.assertEqual([rows_fitting(stock, ((), (("f", 0),))), row_fits(stock, (0,), ()),
                              row_fits(stock, (), LINE)],
                             [[], False, False])
        self.assertEqual([first_fitting((S,), LINE), count_fitting((S,), LINE), rows_fitting((S,), (LINE,))],
                         [(0,) * 60, 1, [(0,) * 60]])
        self.assertEqual([count_fitting((S,) * 6, LINE), first_fitting((S,) * 6, LINE)], [6 ** 60, (0,) * 60])
        self.assertEqual([row_fits((S, F), (0,) * 60, LINE), row_fits((S, F), (0,) * 59, LINE)], [True, False])
        self.assertEqual([first_fitting((S, chain(7), chain(13)), LINE), heard_so_far((chain(7), chain(13)), LINE)],
                         [(0, 1, 2, 2, 2, 2), 60])
        self.assertEqual([heard_so_far((chain(7), chain(14)), LINE), first_fitting((chain(7), chain(14)), LINE)],
                         [56, None])
        one, two = 1, 1
        for _ in range(59):
            one, two = two, one + two
        self.assertEqual(count_fitting((S, chain(2)), LINE), two)
        comb = ()
        for _ in range(19):
            comb = ("s", comb, ())
        self.assertEqual(heard_so_far((comb,), LINE), 57)

    def test_equal_growths_are_unlike_indices(self):
        self.assertEqual(rows_fitting((F, F), ((("f", 0), ("f", 1)),)), [(0, 0), (0, 1), (1, 0), (1, 1)])
        self.assertEqual([count_fitting((S,) * 3, LINE[:4]), first_fitting((S, S), LINE[:2])], [81, (0, 0)])

    def test_shorter_rows_are_less(self):
        stock = (S, chain(2), chain(3))
        self.assertEqual(first_fitting(stock, LINE[:4]), (0, 2))
        self.assertEqual(first_fitting((chain(3), chain(2), S), LINE[:5]), (0, 1))
        self.assertEqual(rows_fitting(stock, (LINE[:3],)), [(0, 0, 0), (0, 1), (1, 0), (2,)])


class ManyRowsTest(unittest.TestCase):
    def test_1000_rows_and_one_more(self):
        stock, heard = (chain(2), chain(3), chain(2), chain(2)), LINE[:12]
        self.assertEqual(count_fitting(stock, heard), 1000)
        found = rows_fitting(stock, (heard,))
        self.assertEqual([len(found), found == sorted(set(found))], [1000, True])
        self.assertTrue(all(row_fits(stock, row, heard) for row in found))
        self.assertEqual(rows_fitting(stock, (heard, heard)), found)
        stock, heard = (S, chain(5)), LINE[:27]
        self.assertEqual(count_fitting(stock, heard), 1001)
        for heards in ((heard,), (heard,) * 6):
            error = raised_by(rows_fitting, stock, heards)
            self.assertEqual((type(error), error.limit), (TooMany, 1000))
        self.assertEqual(len(rows_fitting(stock, (LINE[:26],))), count_fitting(stock, LINE[:26]))

    def test_few_rows_where_each_road_by_itself_has_many(self):
        # The one road takes one step of each growth, the other one two of the second growth.
        stock = (("x", (), ()), ("x", (), ("x", (), ())))
        first, second = (("x", 0),) * 40, (("x", 1),) * 41
        self.assertEqual(count_fitting(stock, first), 2 ** 40)
        self.assertEqual(rows_fitting(stock, (first, second)), sorted(
            tuple(int(at == place) for at in range(40)) for place in range(40)))
        self.assertEqual(raised_by(rows_fitting, stock, (first, (("x", 1),) * 60)).limit, 1000)
        self.assertEqual(rows_fitting(stock, (first, (("x", 1),) * 39)), [])
        self.assertEqual(rows_fitting(stock, (first, (("x", 1),) * 40)), [(0,) * 40])

    def test_the_order_of_the_errors(self):
        heard = (("f", 0),)
        for wrong in ((), [heard], (heard,) * 7, (heard, None), heard):
            self.assertIs(type(raised_by(rows_fitting, A, wrong)), InvalidHeard)
        self.assertIs(type(raised_by(rows_fitting, (), ())), InvalidStock)
        for wrong in ((3,), (-1,), [0], (True,), (0,) * 61, None):
            self.assertIs(type(raised_by(row_fits, A, wrong, None)), InvalidGrowths)
        self.assertIs(type(raised_by(row_fits, (F,), (1,), ())), InvalidGrowths)
        self.assertIs(type(raised_by(row_fits, (F,), (0,), LINE + LINE)), InvalidHeard)
        self.assertIs(row_fits((F,), (0,) * 60, (("f", 1),) * 60), True)
