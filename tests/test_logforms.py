"""[82]: the forms of logs, and logs that do the same to all bushes; with [3], [37], [38]."""

import itertools
import string
import unittest

from tests.samples import D, F, NO_LOGS, S, W, chain, doubled, raised_by, wide
from tests.test_gardens import Y, logs_by_chance, plainly_tended
from tipwoods.errors import InvalidLog, TooMany
from tipwoods.logforms import are_like_logs, log_form

DEEDS = [("year", F), ("year", S), ("year", ("f", S, ())), ("mirror",), ("rename", "f", "s"), ("rename", "s", "f"),
         ("cut", 0), ("cut", 1), ("cut", 2)]
LETTERS = string.ascii_lowercase


# Some are deeper than any cut here, and unlike their mirrors; each letter stands at the root of some.
PROBES = [(), F, S, ("f", S, ()), ("s", (), F), ("f", ("s", ("f", S, ()), ()), ("f", (), S)),
          chain(4, "f", ("s", F, ())),
          ("s", ("s", ("s", ("s", S, ()), ()), ()), ()), ("f", W, ("f", ("f", W, S), ())),
          ("t", ("f", ()), ("u", ("s", S, ()), ())),
          *[(letter, (letter, (letter, ()), ()), (), ()) for letter in LETTERS]]


def plain_form(log):
    """The form of a log, told as [37] and [38] say, with each deed done plainly."""
    cuts = [deed[1] for deed in log if deed[0] == "cut"]
    least = min(cuts, default=None)
    fresh = []
    for depth in range(0 if least is None else least, -1, -1):
        shifted = [("cut", max(deed[1] - depth, 0)) if deed[0] == "cut" else deed for deed in log]
        fresh.insert(0, plainly_tended((), shifted))
    letters = []
    for letter in LETTERS:
        found = letter
        for deed in log:
            if deed[0] == "rename" and deed[1] == found:
                found = deed[2]
        if found != letter:
            letters.append((letter, found))
    mirrored = log.count(("mirror",)) % 2 == 1
    return (least, mirrored and least not in (0, 1), () if least == 0 else tuple(letters), tuple(fresh))


def done_to_probes(log):
    return tuple(plainly_tended(probe, log) for probe in PROBES)


class FormTest(unittest.TestCase):
    def test_examples(self):
        self.assertEqual([
            log_form((("mirror",), ("year", F), ("mirror",))), log_form((("year", F), ("cut", 1))),
            log_form((("cut", 0), ("year", S), ("mirror",))),
        ], [(None, False, (), (("f", (), ()),)), (1, False, (), (("f", (), ()), ())), (0, False, (), (("s", ()),))])
        self.assertEqual([
            log_form(Y)[:3], are_like_logs((("mirror",), ("cut", 1)), (("cut", 1),)),
            are_like_logs((("year", S), ("rename", "s", "t")), (("year", ("t", ())),)),
        ], [(2, True, (("f", "g"),)), True, False])

    def test_beside_the_plain_form(self):
        for log in logs_by_chance(2, 1500, 7,
                                  tuple(DEEDS) + (("cut", 3), ("cut", 5), ("rename", "t", "f"), ("year", D))):
            expected = plain_form(log)
            error = raised_by(log_form, log)
            if error is None:
                self.assertEqual(log_form(log), expected, log)

    def test_two_logs_do_the_same_if_and_only_if_they_have_one_form(self):
        logs = [log for many in range(4) for log in itertools.product(DEEDS, repeat=many)]
        logs += logs_by_chance(3, 1500, 6, tuple(DEEDS))
        by_form, by_deeds = {}, {}
        for log in logs:
            done = done_to_probes(log)
            form = log_form(log)
            self.assertEqual(by_form.setdefault(form, done), done, (log, form))
            self.assertEqual(by_deeds.setdefault(done, form), form, (log, form))
        self.assertGreater(len(by_form), 150)
        self.assertGreater(len(logs), 2 * len(by_form))

    def test_alike(self):
        logs = logs_by_chance(4, 60, 4, tuple(DEEDS))
        for log in logs:
            for other in logs:
                self.assertIs(are_like_logs(log, other), done_to_probes(log) == done_to_probes(other), (log, other))

    def test_no_deed_and_twenty(self):
        self.assertEqual(log_form(()), (None, False, (), ((),)))
        self.assertEqual(log_form((("mirror",),) * 19), (None, True, (), ((),)))
        self.assertEqual(log_form((("mirror",),) * 20), (None, False, (), ((),)))
        self.assertEqual(log_form((("year", chain(3)),) * 20), (None, False, (), (chain(60),)))

    def test_letters(self):
        def letters(*pairs):
            return log_form(tuple(("rename", *pair) for pair in pairs))[2]
        self.assertEqual(letters("aa"), ())
        self.assertEqual(letters("ab", "bc"), (("a", "c"), ("b", "c")))
        self.assertEqual(letters("ab", "ba"), (("b", "a"),))
        self.assertEqual(letters("ab", "bc", "ca"), (("b", "a"), ("c", "a")))
        self.assertEqual(letters("za", "yz"), (("y", "z"), ("z", "a")))
        swapped = letters("aq", "ba", "qb")
        self.assertEqual(swapped, (("a", "b"), ("b", "a"), ("q", "b")))
        self.assertEqual(log_form((("rename", "a", "b"), ("cut", 1)))[:3], (1, False, (("a", "b"),)))
        self.assertEqual(log_form((("rename", "a", "b"), ("cut", 0)))[:3], (0, False, ()))

    def test_depths_0_1_and_60(self):
        self.assertEqual(log_form((("mirror",), ("cut", 0))), (0, False, (), ((),)))
        self.assertEqual(log_form((("mirror",), ("cut", 1))), (1, False, (), ((), ())))
        self.assertEqual(log_form((("mirror",), ("cut", 2))), (2, True, (), ((), (), ())))
        form = log_form((("year", chain(60)), ("mirror",), ("cut", 60), ("cut", 60)))
        self.assertEqual(form, (60, True, (), tuple(chain(60 - depth) for depth in range(61))))
        form = log_form((("cut", 1), ("year", F), ("cut", 60)))
        self.assertEqual(form, (1, False, (), (F, F)))
        # A tip at the depth of the least cut is cut there, by deeper cuts later on.
        form = log_form((("year", W), ("cut", 1), ("year", S), ("cut", 2)))
        self.assertEqual(form, (1, False, (), (("f", S, S), S)))

    def test_too_many(self):
        log = (("year", wide(400)), ("year", F), ("cut", 0))
        for function, arguments in ((log_form, (log,)), (are_like_logs, (log, ())), (are_like_logs, ((), log))):
            error = raised_by(function, *arguments)
            self.assertEqual((type(error), error.limit), (TooMany, 400))
        deep = (("year", chain(60)), ("year", S), ("cut", 60))
        self.assertEqual(raised_by(log_form, deep).limit, 60)
        self.assertEqual([raised_by(are_like_logs, *pair).limit for pair in ((log, deep), (deep, log))], [400, 60])
        # One knot above 399 parts, and above 400; 60 indices, and 61.
        self.assertIsNone(raised_by(log_form, (("year", S), ("year", wide(399)))))
        self.assertEqual(raised_by(log_form, (("year", S), ("year", wide(400)))).limit, 400)
        self.assertIsNone(raised_by(log_form, (("year", chain(23)), ("year", chain(37)))))
        self.assertEqual(raised_by(log_form, (("year", chain(24)), ("year", chain(37)))).limit, 60)
        # At the depth 0, the cut comes in time; at the depth 30 it cuts all, too, but at once.
        self.assertIsNone(raised_by(log_form, (("year", chain(60)), ("cut", 30), ("year", chain(30)))))
        self.assertEqual(raised_by(log_form, (("year", chain(60)), ("cut", 30), ("year", chain(31)))).limit, 60)
        # Of the depths in turn, the first one at which there is too much tells the limit.
        turn = (("year", doubled(6)), ("cut", 5), ("year", wide(14)))
        self.assertEqual(raised_by(log_form, turn).limit, 400)
        self.assertIsNone(raised_by(log_form, (("year", doubled(6)), ("cut", 5), ("year", wide(11)))))
        for wrong in NO_LOGS:
            self.assertIs(type(raised_by(are_like_logs, log, wrong)), InvalidLog)
            self.assertIs(type(raised_by(are_like_logs, wrong, log)), InvalidLog)
