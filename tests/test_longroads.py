"""[56]: spots at roads, and the least road at which two long rows are unlike; with [5], [6], [14], [16]."""

import itertools
import unittest

from tests.samples import (
    D, F, NO_ROADS, ODD_VALUES, S, W, chain, doubled, drawn, lesser_first, letters, raised_by, roads_of, wide,
)
from tipwoods.errors import InvalidRoad, TooMany
from tipwoods.longroads import spot_at, unlike_way
from tipwoods.longrows import long_alike
from tipwoods.roads import unlike_road

N = 10 ** 30
FAR = ("f", F, ())
G = ("f", S, ())
PAIRS = [(F, 2), (S, 2), ((), 3), (FAR, 1), (W, 0), (D, 1), (G, 2), (F, 1)]
ROWS = [()] + [row for many in (1, 2, 3) for row in itertools.product(PAIRS, repeat=many)][:220]


def plain_spots(row):
    """The dict of all roads in the bush of a long row with their spots, told growth by growth."""
    years = [growth for growth, many in row if growth for _ in range(many)]
    found = {}

    def walk(road, year, part):
        if not part and year < len(years):
            year, part = year + 1, years[year]
        # The first year has been come to ahead of any tip.
        found[road] = (len(years), ()) if not part else (year - 1, part)
        for index, branch in enumerate(part[1:]):
            if branch:
                walk((*road, index), year, branch)
            else:
                walk((*road, index), year, ())
    walk((), 0, ())
    return found


def plain_way(spots, mates):
    """The least road of two dicts of spots at which these are unlike, and the number of pairs up to its depth."""
    shared = lesser_first(road for road in spots if road in mates)
    for road in shared:
        part, mate = spots[road][1], mates[road][1]
        if part[:1] != mate[:1] or len(part) != len(mate):
            return road, len({(spots[way], mates[way]) for way in shared if len(way) <= len(road)})
    return None, None


class SpotTest(unittest.TestCase):
    def test_examples(self):
        self.assertEqual([
            spot_at(((F, 2), (S, 1)), (0, 1)), spot_at(((F, 2), (S, 1)), (0, 1, 0)),
            spot_at(((G, 10 ** 30),), (0,)), spot_at((), ()),
        ], [(2, ("s", ())), (3, ()), (0, ("s", ())), (0, ())])

    def test_all_roads_of_drawn_bushes(self):
        for row in ROWS:
            spots = plain_spots(row)
            found = roads_of(drawn(tuple(pair for pair in row if pair[0])))
            self.assertEqual(sorted(spots), sorted(found))
            for road, part in found.items():
                self.assertEqual(spot_at(row, road), spots[road])
                self.assertEqual(spots[road][1] == (), part == ())

    def test_what_stands_behind_a_road_grows_out_of_the_spot(self):
        row = ((G, 2), (D, 1), (F, 1))
        years = [G, G, D, F]
        for road, part in roads_of(drawn(row)).items():
            year, at = spot_at(row, road)
            self.assertEqual(part, drawn(((at, 1), *[(growth, 1) for growth in years[year + 1:]])))

    def test_far_roads(self):
        row = ((S, N), (F, 1))
        self.assertEqual(spot_at(row, (0,) * 1000), (1000, S))
        self.assertEqual(spot_at(((F, 5), (chain(3), N)), (1,) * 5 + (0,) * 995), (5 + 331, chain(1)))
        self.assertEqual(spot_at(((F, 999), (S, 0), ((), N), (W, 1)), (0, 1) * 500), (999, S))
        self.assertEqual(spot_at(((F, 999), (S, 1)), (0, 1) * 499 + (1, 0)), (1000, ()))
        self.assertEqual(spot_at(((F, N),) * 12, ()), (0, F))
        self.assertEqual(spot_at(((wide(400), N),) * 12, (0,) * 3)[0], 0)

    def test_wrong_roads(self):
        for row in (((F, 1),), ((W, 0), (F, 1), ((), N))):
            for road in NO_ROADS + [value for value in ODD_VALUES if value != ()]:
                self.assertIs(type(raised_by(spot_at, row, road)), InvalidRoad, road)
        for row in ((), ((F, 0),), (((), N),)):
            self.assertEqual(spot_at(row, ()), (0, ()))
            for road in ((0,), (-1,), (None,), [], "", None):
                self.assertIs(type(raised_by(spot_at, row, road)), InvalidRoad, road)

    def test_roads_of_more_than_a_thousand_indices(self):
        for row in (((F, N),), ((S, N),), ((chain(60), N),)):
            self.assertIsNone(raised_by(spot_at, row, (0,) * 1000))
            for road in ((0,) * 1001, (0,) * 5000, (0,) * 1000 + (7,), [0] * 1000, (0,) * 999 + (True,),
                         (0,) * 999 + (2,)):
                self.assertIs(type(raised_by(spot_at, row, road)), InvalidRoad)

    def test_roads_behind_a_tip(self):
        row = ((F, 1), (S, 1))
        self.assertEqual(spot_at(row, (1, 0)), (2, ()))
        for road in ((1, 0, 0), (1, 1), (0, 0, 0), (2, 0), (0, -1)):
            self.assertIs(type(raised_by(spot_at, row, road)), InvalidRoad)


class UnlikeWayTest(unittest.TestCase):
    def assert_way(self, long, beside, road):
        self.assertEqual(unlike_way(long, beside), road)
        self.assertEqual(unlike_way(beside, long), road)

    def assert_too_many(self, long, beside):
        for first, second in ((long, beside), (beside, long)):
            error = raised_by(unlike_way, first, second)
            self.assertEqual((type(error), getattr(error, "limit", None)), (TooMany, 1000))

    def test_examples(self):
        self.assert_way(((F, 3),), ((F, 2), (S, 1)), (0, 0))
        self.assert_way(((F, 2),), ((("f", F, F), 1),), None)
        self.assert_way(((F, 1),), ((("f", (), S), 1),), (1,))

    def test_beside_drawn_bushes(self):
        spots = [plain_spots(row) for row in ROWS]
        bushes = [drawn(tuple(pair for pair in row if pair[0])) for row in ROWS]
        for at, row in enumerate(ROWS):
            for mate in range(at % 3, len(ROWS), 3):
                road, pairs = plain_way(spots[at], spots[mate])
                self.assertEqual(unlike_way(row, ROWS[mate]), road)
                self.assertEqual(road is None, bushes[at] == bushes[mate])
                self.assertTrue(pairs is None or pairs <= 1000)
                if len(roads_of(bushes[at])) <= 400 and len(roads_of(bushes[mate])) <= 400:
                    self.assertEqual(unlike_road(bushes[at], bushes[mate]), road)

    def test_none_if_and_only_if_alike(self):
        rows = [((W, N),), ((W, N - 1), (F, 1), (S, 1)), ((F, 1), (("s", F), N - 1), (S, 1)), ((W, N), ((), 9), (S, 0))]
        for row in rows:
            for other in rows:
                self.assertIs(long_alike(row, other), True)
                self.assert_way(row, other, None)
        self.assert_way((), (((), N), (F, 0)), None)
        self.assert_way((), ((F, N),), ())
        self.assert_way(((wide(400), N),) * 12, ((wide(400), N),) * 12, None)

    def test_of_several_roads_the_least(self):
        self.assert_way(((("f", F, F), 1),), ((("f", ("f", (), S), S), 1),), (1,))
        self.assert_way(((("f", ("s", S), ("s", S)), 1),), ((("f", ("s", F), ("s", F)), 1),), (0, 0))
        # The second branch is unlike at a lesser depth than the first one.
        self.assert_way(((("f", chain(5), S), 1), (F, 1)), ((("f", chain(5), S), 1), (S, 1)), (1, 0))

    def test_pairs_of_spots_one_more_than_a_thousand(self):
        for many in (0, 1, 2, 500, 998, 999):
            # Each year has one pair of spots, and one more stands where the rows are unlike.
            self.assert_way(((F, many), (F, N)), ((F, many), (S, N)), (0,) * many)
        self.assert_too_many(((F, 1000), (F, N)), ((F, 1000), (S, N)))
        self.assert_way(((S, 999),), ((S, 1000),), (0,) * 999)
        self.assert_too_many(((S, 1000),), ((S, 1001),))

    def test_pairs_behind_the_least_road_of_its_depth_count(self):
        # All roads with as many indices as the least one count, those that stand behind it, too.
        def ends(many, last):
            return ((S, many), (("k", (), ("a", ()), ("b", ()), ("c", ())), 1), (last, 1))
        for many in (0, 10, 99):
            # The pairs of the years, of the knot "k", and of its four branches.
            road, pairs = plain_way(plain_spots(ends(many, F)), plain_spots(ends(many, S)))
            self.assertEqual((len(road), pairs), (many + 1, many + 5))
        self.assert_way(ends(995, F), ends(995, S), (0,) * 996)
        self.assert_too_many(ends(996, F), ends(996, S))

    def test_equal_pairs_count_once(self):
        # Two to the power of 900 roads lead to each of the last knots, but there are few pairs.
        self.assert_way(((doubled(1), 900), (F, 1)), ((doubled(1), 900), (S, 1)), (0,) * 900)
        row = ((("f", F, F, ()), 150), (S, 1))
        other = ((("f", F, F, ()), 150), (("t", ()), 1))
        self.assert_way(row, other, (2,) * 150)

    def test_pairs_of_unlike_places(self):
        # The one row is ahead of the other one within its growth; each pair of places is one of its own.
        one, other, last = letters("ab" * 11), letters("ba" * 11), ("a", ())
        self.assert_way(((last, 1), (other, 3), (F, 1)), ((one, 3), (last, 1), (S, 1)), (0,) * 67)
        first, second = ((chain(53), N),), ((chain(59), N - 1), (F, 1))
        self.assert_too_many(first, second)
        self.assert_too_many(((chain(53), 59), (F, 1)), ((chain(59), 53), (S, 1)))
        self.assert_way(((chain(31), 30), (F, 1)), ((chain(30), 31), (S, 1)), (0,) * 930)

    def test_spots_seen_again_deeper(self):
        # A growth with branches of unlike depths leads to one spot at many depths.
        row = ((G, 40), (F, 1))
        other = ((G, 40), (W, 1))
        self.assert_way(row, other, (1,) * 40 + (0,))
        self.assert_way(((G, N), (F, 1)), ((G, 400), (F, 1), (G, N)), (1,) * 400 + (0,))
        self.assert_too_many(((G, N), (F, 1)), ((G, 700), (F, 1), (G, N)))

    def test_ever_so_many_years(self):
        big = wide(400)
        self.assert_too_many(((big, N),) * 12, ((big, N),) * 11 + ((big, N - 1),))
        self.assert_too_many(((chain(60), N),) * 12, ((chain(60), N),) * 10 + ((chain(60), N - 1), (F, 1)))
        self.assert_too_many(((F, N), (S, 1)), ((F, N), (F, 1)))
        self.assert_way(((F, N),), ((S, N),), ())
        self.assert_way(((F, N),) * 12, ((F, 7), (S, N)) * 6, (0,) * 7)


class PlainlyTest(unittest.TestCase):
    def test_second_way_tells_the_limit(self):
        # Growths with many unlike parts, so that few years are more than a thousand pairs.
        def leaf(number):
            return (chr(97 + number), ())
        growth = ("r", *[("q", *[leaf(6 * at + by) for by in range(4)]) for at in range(4)])
        for years in range(1, 4):
            row, other = ((growth, years), (F, 1)), ((growth, years), (S, 1))
            road, pairs = plain_way(plain_spots(row), plain_spots(other))
            self.assertEqual(road, (0,) * (3 * years))
            self.assertLessEqual(pairs, 1000)
            self.assertEqual(unlike_way(row, other), road)
        # 21 new pairs come with each year, and two at the ends.
        for years, many in ((46, False), (47, False), (48, True)):
            row, other = ((growth, years), (F, 1)), ((growth, years), (S, 1))
            pairs = 21 * years + 1
            self.assertEqual(pairs > 1000, many)
            self.assertEqual(raised_by(unlike_way, row, other) is not None, many)
        row, other = ((growth, 47), (S, 12), (F, 1)), ((growth, 47), (S, 13), (F, 1))
        self.assertEqual(unlike_way(row, other), (0,) * (3 * 47 + 12))
        self.assertIsNotNone(raised_by(unlike_way, ((growth, 47), (S, 13)), ((growth, 47), (S, 14))))
