"""[41]: roads; with [4], [5], [6]."""

import unittest

from tests.samples import F, NO_ROADS, S, W, chain, lesser_first, raised_by, roads_of, small_bushes, wide
from tipwoods import errors
from tipwoods.roads import part_at, tip_number, tip_road, tip_roads, unlike_road


class RoadsTest(unittest.TestCase):
    def test_examples(self):
        bush = ("f", S, F)
        self.assertEqual([part_at(bush, (1, 0)), part_at(bush, (0,)), tip_roads(bush)],
                         [(), ("s", ()), [(0, 0), (1, 0), (1, 1)]])
        self.assertEqual([tip_road(bush, 2), tip_number(bush, (1, 0)), tip_number(S, ())], [(1, 1), 1, None])

    def test_the_tip(self):
        self.assertEqual([part_at((), ()), tip_roads(()), tip_road((), 0), tip_number((), ())], [(), [()], (), 0])

    def test_beside_all_roads(self):
        for bush in small_bushes(3) + [wide(400), chain(60), ("f", (), W, F, S, ("g",) + (F,) * 6, ())]:
            roads = roads_of(bush)
            tips = sorted(road for road in roads if not roads[road])
            self.assertEqual(tip_roads(bush), tips)
            for number, road in enumerate(tips):
                self.assertEqual(tip_road(bush, number), road)
            for road, part in roads.items():
                self.assertEqual(part_at(bush, road), part)
                self.assertEqual(tip_number(bush, road), None if part else tips.index(road))

    def test_tips_stand_from_the_left_whatever_their_depths(self):
        bush = ("f", S, (), ("f", (), S))
        self.assertEqual(tip_roads(bush), [(0, 0), (1,), (2, 0), (2, 1, 0)])

    def test_wrong_roads(self):
        for road in NO_ROADS:
            for function in (part_at, tip_number):
                for bush in (F, (), S, chain(60)):
                    if road == (0, 0) and bush == chain(60) or road == (0,) * 60:
                        continue
                    self.assertIs(type(raised_by(function, bush, road)), errors.InvalidRoad, (bush, road))

    def test_roads_end_at_tips(self):
        bush = ("f", S, F)
        for road in ((0, 0, 0), (0, 1), (1, 2), (2,), (1, 1, 0), (0, 0, -1), (-1,), (-2, 0), (1, -1)):
            self.assertIs(type(raised_by(part_at, bush, road)), errors.InvalidRoad, road)
            self.assertIs(type(raised_by(tip_number, bush, road)), errors.InvalidRoad, road)
        self.assertEqual(part_at(chain(60), (0,) * 60), ())
        self.assertIs(type(raised_by(part_at, chain(60), (0,) * 61)), errors.InvalidRoad)

    def test_numbers_of_tips(self):
        for bush in (F, (), S, W, ("f", F, F)):
            many = len(tip_roads(bush))
            for number in (-1, many, many + 1, True, False, None, "0", (0,), 10 ** 119):
                self.assertIs(type(raised_by(tip_road, bush, number)), errors.InvalidNumber, number)
            tip_road(bush, many - 1)


def plainly_unlike(part, mate):
    if not part or not mate:
        return part != mate
    return part[0] != mate[0] or len(part) != len(mate)


class UnlikeRoadTest(unittest.TestCase):
    def test_examples(self):
        self.assertEqual([
            unlike_road(F, ("f", S, ("s", ()))), unlike_road(("f", F, S), ("f", ("f", (), S), S)),
            unlike_road(F, S), unlike_road(("f", (), ()), F),
        ], [(0,), (0, 1), (), None])

    def test_all_ways_to_be_unlike(self):
        self.assertEqual(unlike_road((), S), ())
        self.assertEqual(unlike_road(S, ()), ())
        self.assertEqual(unlike_road(F, ("g", (), ())), ())
        self.assertEqual(unlike_road(F, ("f", ())), ())
        self.assertEqual(unlike_road(("f", ()), F), ())
        self.assertIsNone(unlike_road((), ()))

    def test_fewer_indices_come_first(self):
        self.assertEqual(unlike_road(("f", ("f", S, ()), ()), ("f", F, S)), (1,))
        self.assertEqual(unlike_road(("f", S, F, ()), ("f", F, S, S)), (0,))
        self.assertEqual(unlike_road(("f", ("f", (), S), F), ("f", F, ("f", S, ()))), (0, 1))

    def test_beside_all_roads(self):
        bushes = small_bushes(2) + [F, S, W, ("a", ("a", (), ()), ("b", ())), ("a", ("a", (), ()), ("b", S))]
        for bush in bushes:
            for other in bushes:
                mine, others = roads_of(bush), roads_of(other)
                found = [road for road in mine if road in others and plainly_unlike(mine[road], others[road])]
                expected = lesser_first(found)[0] if found else None
                self.assertEqual(unlike_road(bush, other), expected)
                self.assertEqual(expected is None, bush == other)

    def test_the_greatest_ones(self):
        self.assertEqual(unlike_road(chain(60), chain(59)), (0,) * 59)
        self.assertEqual(unlike_road(chain(60), chain(59, "s", ("t", ()))), (0,) * 59)
        self.assertIsNone(unlike_road(wide(400), wide(400)))
