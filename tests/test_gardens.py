"""[81]: logs of deeds, and bushes tended by them; with [9], [36], and the order of TooMany."""

import random
import unittest

from tests.samples import (
    D, F, NO_DEEDS, NO_LOGS, ODD_VALUES, S, W, chain, count_parts, depth_of, raised_by, small_bushes, wide,
)
from tipwoods.errors import InvalidBush, InvalidLog, TooMany
from tipwoods.gardens import is_log, tended, tended_on

Y = (("year", F), ("rename", "f", "g"), ("mirror",), ("year", S), ("cut", 2))
DEEDS = [("year", F), ("year", S), ("year", ()), ("year", ("f", S, ())), ("mirror",), ("rename", "f", "s"),
         ("rename", "s", "t"),
         ("rename", "s", "s"), ("cut", 0), ("cut", 1), ("cut", 2), ("cut", 3)]
BUSHES = small_bushes(2) + [F, S, W, D, ("f", F, S), ("f", S, ("s", F), W), chain(5, "f", D)]


def plainly_done(bush, deed, depth=0):
    """What a bush is behind a deed, told part by part from the root on."""
    kind, *rest = deed
    if kind == "cut" and depth == rest[0]:
        return ()
    if not bush:
        return rest[0] if kind == "year" else ()
    branches = [plainly_done(branch, deed, depth + 1) for branch in bush[1:]]
    letter = rest[1] if kind == "rename" and bush[0] == rest[0] else bush[0]
    return (letter, *branches[::-1 if kind == "mirror" else 1])


def plainly_tended(bush, log):
    for deed in log:
        bush = plainly_done(bush, deed)
    return bush


def logs_by_chance(seed, many, most, deeds=tuple(DEEDS)):
    chance = random.Random(seed)
    return [tuple(chance.choice(deeds) for _ in range(chance.randrange(most + 1))) for _ in range(many)]


class LogTest(unittest.TestCase):
    def test_what_a_log_is(self):
        for right in ((), Y, *[(deed,) for deed in DEEDS], (("cut", 60),), (("mirror",),) * 20,
                      (("year", wide(400)),) * 20,
                      (("year", chain(60)),), (("rename", "a", "z"), ("rename", "z", "a"))):
            self.assertIs(is_log(right), True)
        for wrong in NO_LOGS + ODD_VALUES + [(deed,) for deed in ODD_VALUES]:
            self.assertIs(is_log(wrong), False, wrong)
        for deed in NO_DEEDS:
            self.assertIs(is_log((*Y, deed)), False, deed)
        self.assertEqual([is_log((("mirror",),) * many) for many in (19, 20, 21)], [True, True, False])
        self.assertEqual([is_log((("cut", depth),)) for depth in (-1, 0, 60, 61)], [False, True, True, False])


class TendedTest(unittest.TestCase):
    def test_examples(self):
        self.assertEqual([is_log(Y), is_log((("cut", 61),)), tended(S, Y), tended_on(("h", S, ()), Y[1:4])[-1]],
                         [True, False, ("s", ("g", (), ())), ("h", ("s", ()), ("s", ("s", ())))])

    def test_beside_doing_deed_by_deed(self):
        for log in logs_by_chance(1, 400, 6):
            for bush in BUSHES[::2]:
                years = [bush]
                for deed in log:
                    years.append(plainly_done(years[-1], deed))
                if max(map(count_parts, years)) <= 400:
                    self.assertEqual(tended(bush, log), years[-1], (bush, log))
                    self.assertEqual(tended_on(bush, log), years)

    def test_each_kind_of_deed(self):
        bush = ("f", S, ("s", F))
        self.assertEqual(tended(bush, (("year", S),)), ("f", ("s", S), ("s", ("f", S, S))))
        self.assertEqual(tended(bush, (("mirror",),)), ("f", ("s", F), S))
        self.assertEqual(tended(bush, (("rename", "s", "f"),)), ("f", ("f", ()), ("f", F)))
        self.assertEqual(tended(bush, (("rename", "s", "s"),)), bush)
        self.assertEqual(tended(bush, (("rename", "q", "f"),)), bush)
        # Both letters become one, and stay so.
        self.assertEqual(tended(bush, (("rename", "s", "f"), ("rename", "f", "s"))),
                         ("s", ("s", ()), ("s", ("s", (), ()))))
        self.assertEqual([tended(bush, (("cut", depth),)) for depth in range(5)],
                         [(), ("f", (), ()), ("f", S, S), bush, bush])
        self.assertEqual([tended((), (deed,)) for deed in DEEDS[:5]], [F, S, (), ("f", S, ()), ()])
        self.assertEqual([tended(chain(60), (("cut", depth),)) for depth in (59, 60)], [chain(59), chain(60)])

    def test_no_deed_and_twenty(self):
        for bush in BUSHES + [(), wide(400), chain(60)]:
            self.assertEqual([tended(bush, ()), tended_on(bush, ())], [bush, [bush]])
            self.assertEqual(tended(bush, (("mirror",),) * 20), bush)
            self.assertEqual(len(tended_on(bush, (("mirror",),) * 20)), 21)
        self.assertEqual(tended((), (("year", chain(3)),) * 20), chain(60))

    def test_401_parts_and_61_depths(self):
        self.assertEqual(count_parts(tended(("s", wide(398)), (("cut", 60),))), 399)
        self.assertEqual(count_parts(tended((), (("year", wide(400)),))), 400)
        self.assertEqual(tended(chain(59), (("year", S),)), chain(60))
        for log in ((("year", F),), (("year", F), ("cut", 0)), (("mirror",), ("year", F), ("cut", 1))):
            for function in (tended, tended_on):
                error = raised_by(function, wide(400), log)
                self.assertEqual((type(error), error.limit), (TooMany, 400))
        for log in ((("year", S),), (("year", S), ("cut", 0)), (("mirror",), ("year", S), ("cut", 60))):
            for function in (tended, tended_on):
                self.assertEqual(raised_by(function, chain(60), log).limit, 60)
        # One knot above 399 parts, and above 400; 60 indices, and 61.
        for function in (tended, tended_on):
            self.assertIsNone(raised_by(function, S, (("year", wide(399)),)))
            self.assertEqual(raised_by(function, S, (("year", wide(400)),)).limit, 400)
            self.assertIsNone(raised_by(function, chain(23), (("year", chain(37)),)))
            self.assertEqual(raised_by(function, chain(24), (("year", chain(37)),)).limit, 60)
        # Too many parts, and too deep at once; and what comes first of both.
        both = ("f", chain(59), wide(330))
        self.assertEqual(raised_by(tended, both, (("year", S),)).limit, 400)
        self.assertEqual(raised_by(tended, chain(60), (("year", S), ("year", wide(400)))).limit, 60)
        self.assertEqual(raised_by(tended, wide(400), (("year", S), ("year", chain(60)))).limit, 400)
        # What is cut off in time does not count.
        self.assertEqual(tended(chain(60), (("cut", 59), ("year", S))), chain(60))
        self.assertEqual(tended(wide(400), (("cut", 1), ("year", S), ("cut", 1))), ("w", *[()] * 6))
        self.assertEqual(depth_of(tended(chain(30), (("year", chain(30)), ("cut", 40), ("year", chain(20))))), 60)

    def test_the_order_of_the_errors(self):
        for function in (tended, tended_on):
            self.assertIs(type(raised_by(function, ("f",), (("cut", 61),))), InvalidBush)
            self.assertIs(type(raised_by(function, wide(400), (("year", F), ("cut", 61)))), InvalidLog)
