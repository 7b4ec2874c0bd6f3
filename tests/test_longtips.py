"""[55]: tips of long rows by their numbers and by runs; with [5], [14], [15]."""

import itertools
import unittest

from tests.samples import D, F, NO_ROADS, ODD_VALUES, S, W, chain, doubled, drawn, no_numbers, raised_by, roads_of, wide
from tipwoods.errors import InvalidNumber, InvalidRuns, TooMany
from tipwoods.longcounts import tips_whole
from tipwoods.longtips import far_runs, near_runs, runs_of_tip, tip_of_runs
from tipwoods.roads import tip_roads

N = 10 ** 30
FAR = ("f", F, ())
NEAR = ("n", (), ("n", (), ()), (("s", ())))
LONG = ((F, N), (S, 1), (F, 2))
PAIRS = [(F, 2), (S, 3), ((), N), (FAR, 1), (FAR, 2), (D, 0), (NEAR, 1), (D, 1)]
ROWS = [()] + [row for many in (1, 2, 3) for row in itertools.product(PAIRS, repeat=many)][:260]


def drawable(row):
    return tuple((growth, years if growth else 0) for growth, years in row)


def plain_runs(row, road):
    """The runs of a road, which is divided year by year at the tips of the growths."""
    runs = []
    for growth, years in row:
        first = len(runs)
        tips = set(tip_roads(growth))
        for _ in range(years if growth else 0):
            size = next(size for size in range(len(road) + 1) if road[:size] in tips)
            if len(runs) > first and runs[-1][0] == road[:size]:
                runs[-1] = (road[:size], runs[-1][1] + 1)
            else:
                runs.append((road[:size], 1))
            road = road[size:]
    assert road == ()
    return tuple(runs)


class RunsTest(unittest.TestCase):
    def test_examples(self):
        self.assertEqual(runs_of_tip(LONG, 5), (
            ((0,), 999999999999999999999999999999), ((1,), 1), ((0,), 1), ((0,), 1), ((1,), 1),
        ))
        self.assertEqual([
            tip_of_runs(((F, 3),), (((1,), 2), ((0,), 1))), near_runs(((FAR, N),)), far_runs(((FAR, 3), (S, 0))),
            runs_of_tip((), 0),
        ], [6, (((1,), 1000000000000000000000000000000),), (((0, 0), 3),), ()])

    def test_all_tips_of_drawn_bushes(self):
        for row in ROWS:
            found = roads_of(drawn(drawable(row)))
            roads = sorted(road for road, part in found.items() if not part)
            self.assertEqual(tips_whole(row), len(roads))
            for number, road in enumerate(roads):
                runs = runs_of_tip(row, number)
                self.assertEqual(runs, plain_runs(row, road))
                self.assertEqual(tip_of_runs(row, runs), number)
            for wrong in (len(roads), len(roads) + 1, -1):
                self.assertIs(type(raised_by(runs_of_tip, row, wrong)), InvalidNumber)
            depths = [len(road) for road in roads]
            self.assertEqual(near_runs(row), runs_of_tip(row, depths.index(min(depths))))
            self.assertEqual(far_runs(row), runs_of_tip(row, depths.index(max(depths))))

    def test_neighbours_of_two_pairs_stay_apart(self):
        self.assertEqual(runs_of_tip(((F, 2), (F, 3)), 0), (((0,), 2), ((0,), 3)))
        self.assertEqual(runs_of_tip(((F, 2), (F, 0), ((), 5), (F, 3)), 31), (((1,), 2), ((1,), 3)))
        self.assertEqual(tip_of_runs(((F, 2), (F, 3)), (((0,), 2), ((0,), 3))), 0)
        self.assertIs(type(raised_by(tip_of_runs, ((F, 2), (F, 3)), (((0,), 5),))), InvalidRuns)
        self.assertIs(type(raised_by(tip_of_runs, ((F, 5),), (((0,), 2), ((0,), 3)))), InvalidRuns)

    def test_the_last_year_has_the_last_digit(self):
        three = ("t", (), (), ())
        # 7 is 3 times 2 and 1 more, and 3 is 1 times 3: so the last three years have the tips 1, 0 and 1.
        self.assertEqual(runs_of_tip(((three, N), (F, 1)), 7), (((0,), N - 2), ((1,), 1), ((0,), 1), ((1,), 1)))

    def test_first_and_last_tips(self):
        for growth in (F, FAR, D, doubled(7), wide(400)):
            roads = tip_roads(growth)
            many = len(roads)
            self.assertEqual(runs_of_tip(((growth, N),) * 12, 0), ((roads[0], N),) * 12)
            self.assertEqual(runs_of_tip(((growth, 3),) * 2, many ** 6 - 1), ((roads[-1], 3),) * 2)
            self.assertEqual(runs_of_tip(((growth, N),), many - 1), ((roads[0], N - 1), (roads[-1], 1)))
            self.assertIs(type(raised_by(runs_of_tip, ((growth, 3),) * 2, many ** 6)), InvalidNumber)

    def test_rows_of_one_tip(self):
        row = ((chain(60), N), (S, 5), ((), 7))
        self.assertEqual(runs_of_tip(row, 0), (((0,) * 60, N), ((0,), 5)))
        self.assertEqual(tip_of_runs(row, (((0,) * 60, N), ((0,), 5))), 0)
        self.assertEqual([near_runs(row), far_runs(row)], [runs_of_tip(row, 0)] * 2)
        self.assertIs(type(raised_by(runs_of_tip, row, 1)), InvalidNumber)
        mixed = ((S, N), (F, 1), (S, N), (F, 1), (chain(2), 1))
        self.assertEqual([tip_of_runs(mixed, runs_of_tip(mixed, number)) for number in range(4)], [0, 1, 2, 3])

    def test_near_and_far_tips_are_the_first_of_several(self):
        both = ("f", ("f", (), F), ("s", ()), (), F, ())
        self.assertEqual(near_runs(((both, N),)), (((2,), N),))
        self.assertEqual(far_runs(((both, N),)), (((0, 1, 0), N),))
        self.assertEqual(near_runs(((both, 1), ((), 4), (D, 2), (both, 0))), (((2,), 1), ((0, 0), 2)))
        self.assertEqual([near_runs(()), far_runs(()), near_runs(((both, 0),)), far_runs((((), N),))], [()] * 4)

    def test_wrong_numbers(self):
        for number in no_numbers(0, 2 ** 10 - 1):
            self.assertIs(type(raised_by(runs_of_tip, ((F, 10),), number)), InvalidNumber, number)
        for number in (1, 2, 10 ** 119, -1, True, None):
            self.assertIs(type(raised_by(runs_of_tip, (), number)), InvalidNumber)

    def test_all_numbers_of_a_bush_that_can_never_be_drawn(self):
        row = ((wide(400), N), (F, 2 * 10 ** 29))
        for number in (0, 1, 10 ** 119, 10 ** 120 - 1, 2 ** 500, 10 ** 3999, 10 ** 4000 - 1):
            self.assertEqual(tip_of_runs(row, runs_of_tip(row, number)), number)


class TooManyTest(unittest.TestCase):
    def assert_too_many(self, row, runs):
        error = raised_by(tip_of_runs, row, runs)
        self.assertEqual((type(error), error.limit), (TooMany, 4000))

    def test_numbers_of_four_thousand_digits(self):
        ten = ("t", ("t", (), (), (), (), ()), ("t", (), (), (), (), ()))
        nine, one = (1, 4), (0, 1)
        self.assertEqual(tip_of_runs(((ten, N),), (((0, 0), N - 4000), (nine, 4000))), 10 ** 4000 - 1)
        self.assert_too_many(((ten, N),), (((0, 0), N - 4001), (one, 1), ((0, 0), 4000)))
        self.assertEqual(runs_of_tip(((ten, N),), 10 ** 4000 - 1), (((0, 0), N - 4000), (nine, 4000)))
        self.assertEqual(runs_of_tip(((ten, N),), 10 ** 4000), (((0, 0), N - 4001), (one, 1), ((0, 0), 4000)))

    def test_ever_so_many_years(self):
        self.assert_too_many(((F, N),) * 12, (((1,), N),) * 12)
        self.assert_too_many(((F, N), (S, N)), (((0,), N - 20000), ((1,), 1), ((0,), 19999), ((0,), N)))
        self.assert_too_many(((F, N), (F, N)), (((0,), N - 1), ((1,), 1), ((0,), N)))
        self.assertEqual(tip_of_runs(((F, N), (S, N)), (((0,), N - 1), ((1,), 1), ((0,), N))), 1)
        self.assertEqual(tip_of_runs(((F, N),) * 12, (((0,), N),) * 12), 0)

    def test_wrong_runs_come_first(self):
        for runs in ((((1,), N),), (((1,), N), ((1,), N - 1)), (((1,), N), ((1,), N), ((1,), 1)),
                     (((1,), N), ((2,), N)),
                     (((1,), N), ((1,), N, 1)), (((1,), N), None), (((1,), N), ((1,), 1), ((1,), N - 1))):
            self.assertIs(type(raised_by(tip_of_runs, ((F, N), (F, N)), runs)), InvalidRuns, runs)


class WrongRunsTest(unittest.TestCase):
    def assert_invalid(self, row, runs):
        self.assertIs(type(raised_by(tip_of_runs, row, runs)), InvalidRuns, (row, runs))

    def test_wrong_runs(self):
        for runs in [value for value in ODD_VALUES if value != ()] + [
            (), [((0,), 2), ((1,), 1)], (((0,), 2),), (((0,), 4),), (((0,), 2), ((1,), 2)),
            (((0,), 2), ((1,), 1), ((0,), 1)), (((0,), 1), ((0,), 1), ((1,), 1)), (((0,), 2), ((0,), 1)),
            ([(0,), 2], ((1,), 1)), (((0,), 2), ((1,), True)),
            (((0,), 0), ((1,), 3)), (((0,), -1), ((1,), 4)), (((0,), "2"), ((1,), 1)), (((0,), 2), ((1,),)), ((0, 3),),
            (((0,), 2, 1), ((1,), 1)), (([0], 2), ((1,), 1)), (((0,), 3), None), (((0,), 3), ()), ((0,), 3),
            ((3, (0,)),), (((0,), 10 ** 119),), (((True,), 3),), (((False,), 3),), ((((0,),), 3),), ((("0",), 3),),
            (((), 3),), ((None, 3),),
        ]:
            self.assert_invalid(((F, 3),), runs)

    def test_roads_that_lead_to_no_tip(self):
        for road in [*NO_ROADS, *ODD_VALUES, (), (0,), (0, 0, 0), (1, 0)]:
            if road not in tip_roads(FAR):
                self.assert_invalid(((FAR, 2),), ((road, 2),))
                self.assert_invalid(((FAR, 2),), (((0, 0), 1), (road, 1)))

    def test_rows_without_years(self):
        for row in ((), ((F, 0),), (((), N),)):
            self.assertEqual(tip_of_runs(row, ()), 0)
            for runs in ((((), 1),), (((), N),), (((0,), 1),), (((), 0),)):
                self.assert_invalid(row, runs)

    def test_runs_that_do_not_end_with_their_pair(self):
        row = ((F, 2), (S, 2))
        self.assertEqual(tip_of_runs(row, (((0,), 1), ((1,), 1), ((0,), 2))), 1)
        for runs in ((((0,), 4),), (((1,), 1), ((0,), 3)), (((0,), 2), ((0,), 1)), (((0,), 2), ((0,), 3)),
                     (((0,), 2), ((0,), 1), ((0,), 1)), (((0,), 2), ((0,), 2), ((0,), 1)), (((0,), 2),),
                     (((0,), 2), ((1,), 2)), (((0,), 1), ((0,), 1), ((0,), 2))):
            self.assert_invalid(row, runs)

    def test_just_the_runs_of_some_tip(self):
        row = ((FAR, 2), (S, 1))
        items = [(road, times) for road in ((0, 0), (1,), (0,), (0, 1)) for times in (1, 2)]
        right = {runs_of_tip(row, number) for number in range(9)}
        for many in range(4):
            for runs in itertools.product(items, repeat=many):
                self.assertEqual(raised_by(tip_of_runs, row, runs) is None, runs in right)
