"""[83]: origins of knots, and deeds that could have been spared; with [36], [39]."""

import unittest

from tests.samples import D, F, NO_ROADS, ODD_VALUES, S, W, chain, raised_by, roads_of, wide
from tests.test_gardens import BUSHES, Y, logs_by_chance, plainly_tended
from tipwoods.errors import InvalidBush, InvalidLog, InvalidRoad, TooMany
from tipwoods.origins import origin_of, spared_deeds


class Knot:
    """A knot that knows where it came from."""

    def __init__(self, bush, index, road=()):
        self.origin = (index, road)
        self.branches = [planted(branch, index, (*road, at)) for at, branch in enumerate(bush[1:])]


def planted(bush, index, road=()):
    return Knot(bush, index, road) if bush else None


def changed(knot, index, deed, depth=0):
    """What comes of a knot, or of None for a tip, by a deed with an index."""
    if deed[0] == "cut" and depth == deed[1]:
        return None
    if knot is None:
        return planted(deed[1], index) if deed[0] == "year" else None
    knot.branches = [changed(branch, index, deed, depth + 1) for branch in knot.branches]
    if deed[0] == "mirror":
        knot.branches.reverse()
    return knot


def origins(knot, road=()):
    """The dict of the origins of all knots by their roads."""
    found = {}
    if knot is not None:
        found[road] = knot.origin
        for at, branch in enumerate(knot.branches):
            found.update(origins(branch, (*road, at)))
    return found


def all_origins(bush, log):
    knot = planted(bush, -1)
    for index, deed in enumerate(log):
        knot = changed(knot, index, deed)
    return origins(knot)


class OriginTest(unittest.TestCase):
    def test_examples(self):
        self.assertEqual([
            origin_of(S, Y, ()), origin_of(S, Y, (0,)), origin_of(("h", S, ()), Y[1:4], (1, 0)), spared_deeds(S, Y),
        ], [(-1, ()), (0, ()), (2, ()), [2, 3]])

    def test_beside_marked_knots(self):
        for log in logs_by_chance(5, 150, 5):
            for bush in BUSHES[::4]:
                drawn = plainly_tended(bush, log)
                expected = all_origins(bush, log)
                parts = roads_of(drawn)
                if len(parts) <= 120 and raised_by(origin_of, bush, log, None).__class__ is InvalidRoad:
                    self.assertEqual({road for road, part in parts.items() if part}, set(expected))
                    for road, part in parts.items():
                        if part:
                            self.assertEqual(origin_of(bush, log, road), expected[road], (bush, log, road))
                        else:
                            self.assertIs(type(raised_by(origin_of, bush, log, road)), InvalidRoad)

    def test_what_changes_no_origin(self):
        bush = ("f", S, ("s", F))
        self.assertEqual(origin_of(bush, (("mirror",),), (0, 0)), (-1, (1, 0)))
        self.assertEqual(origin_of(bush, (("rename", "s", "f"), ("rename", "f", "q")), (1, 0)), (-1, (1, 0)))
        self.assertEqual(origin_of(bush, (("cut", 2),), (1,)), (-1, (1,)))
        log = (("year", ("a", S, ())), ("mirror",), ("year", S), ("mirror",), ("cut", 4))
        self.assertEqual(origin_of((), log, ()), (0, ()))
        self.assertEqual(origin_of((), log, (0,)), (0, (0,)))
        self.assertEqual(origin_of((), log[:3], (1,)), (0, (0,)))
        self.assertEqual(origin_of((), log[:3], (0,)), (2, ()))
        # What was cut off, and has grown again, came with the later growth.
        self.assertEqual(origin_of(chain(3), (("cut", 1), ("year", chain(3))), (0,)), (1, ()))
        self.assertEqual(origin_of(chain(3), (("cut", 1), ("year", chain(3))), (0, 0, 0)), (1, (0, 0)))
        self.assertEqual(origin_of(chain(60), (("mirror",),) * 20, (0,) * 59), (-1, (0,) * 59))

    def test_wrong_roads(self):
        for wrong in NO_ROADS + ODD_VALUES + [(0,), (1,)]:
            self.assertIs(type(raised_by(origin_of, F, (("mirror",),), wrong)), InvalidRoad, wrong)
        for road in ((), (0,), None):
            self.assertIs(type(raised_by(origin_of, F, (("cut", 0),), road)), InvalidRoad)
        self.assertEqual(origin_of(F, (("cut", 1),), ()), (-1, ()))
        # A road in the bush as it was ahead of the log is none if it was cut off.
        self.assertIs(type(raised_by(origin_of, W, (("cut", 1),), (0,))), InvalidRoad)
        self.assertEqual(origin_of(W, (), (0,)), (-1, (0,)))

    def test_the_order_of_the_errors(self):
        late = (("year", F), ("cut", 0))
        self.assertIs(type(raised_by(origin_of, ("f",), None, None)), InvalidBush)
        self.assertIs(type(raised_by(origin_of, wide(400), (*late, ("cut", 61)), None)), InvalidLog)
        for road in ((), (0,), (9,), None, [], "x"):
            error = raised_by(origin_of, wide(400), late, road)
            self.assertEqual((type(error), error.limit), (TooMany, 400))
            self.assertEqual(raised_by(origin_of, chain(60), (("year", S),), road).limit, 60)


class SparedTest(unittest.TestCase):
    def test_beside_leaving_each_out(self):
        told = set()
        for log in logs_by_chance(6, 300, 6):
            for bush in BUSHES[::5]:
                if raised_by(spared_deeds, bush, log) is None:
                    expected = [at for at in range(len(log))
                                if plainly_tended(bush, log[:at] + log[at + 1:]) == plainly_tended(bush, log)]
                    self.assertEqual(spared_deeds(bush, log), expected, (bush, log))
                    told.add(len(expected))
        self.assertTrue({0, 1, 2, 3, 4} <= told)

    def test_edges(self):
        self.assertEqual([spared_deeds(F, ()), spared_deeds((), (("year", ()),)), spared_deeds((), (("year", S),))],
                         [[], [0], []])
        # Each by itself: without both, it would not be the same.
        self.assertEqual(spared_deeds(W, (("cut", 1), ("cut", 1))), [0, 1])
        self.assertEqual(spared_deeds(F, (("mirror",),) * 20), list(range(20)))
        self.assertEqual(spared_deeds(("f", S, ()), (("mirror",),) * 20), [])
        self.assertEqual(spared_deeds(D, (("rename", "b", "c"), ("rename", "a", "a"), ("rename", "a", "b"))), [0, 1])

    def test_too_many_without_a_deed(self):
        log = (("cut", 1), ("year", S))
        error = raised_by(spared_deeds, wide(400), log)
        self.assertEqual((type(error), error.limit), (TooMany, 400))
        self.assertEqual(raised_by(spared_deeds, chain(60), log).limit, 60)
        self.assertIsNone(raised_by(spared_deeds, chain(59), log))
        # The log itself comes first, then the deeds in their order.
        self.assertEqual(raised_by(spared_deeds, chain(60), (("year", S), ("cut", 0), ("year", wide(400)),
                                                             ("year", F))).limit, 60)
        both = (("cut", 1), ("year", chain(59)), ("cut", 2), ("year", wide(390)))
        self.assertIsNone(raised_by(spared_deeds, S, both[:1]))
        self.assertEqual(raised_by(spared_deeds, chain(3), both).limit, 60)
