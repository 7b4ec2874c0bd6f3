"""[84]: gardeners, call by call beside a plain list of bushes; with [2], [36]."""

import random
import unittest

from tests.samples import F, NO_BUSHES, ODD_VALUES, S, W, chain, doubled, raised_by, wide
from tests.test_gardens import BUSHES, plainly_done
from tipwoods.errors import (
    InvalidBush, InvalidDepth, InvalidLetter, NothingToRedo, NothingToUndo, TooMany,
)
from tipwoods.gardeners import Gardener
from tipwoods.gardens import is_log, tended, tended_on

NO_LETTERS = [None, 0, "", "A", "ab", "{", "`", " ", "1", ("a",), ["a"], True, F, 10 ** 119, "a\n", "x" * 4000,
              *ODD_VALUES]
NO_LETTERS = [value for value in NO_LETTERS if not (isinstance(value, str) and len(value) == 1 and value.islower())]
NO_DEPTHS = [None, True, False, -1, 61, "1", (), (1,), [1], F, 10 ** 119, -10 ** 119, *ODD_VALUES]


class Plain:
    """What a gardener must be, as a list of pairs of deeds and bushes, of which some at the end are taken back."""

    def __init__(self, bush):
        self.pairs = [(None, bush)]
        self.at = 0

    def copy(self):
        other = Plain(None)
        other.pairs, other.at = list(self.pairs), self.at
        return other

    def do(self, deed):
        """The limit that is told, None if the deed is done."""
        if self.at >= 20:
            return 20
        bush = plainly_done(self.pairs[self.at][1], deed)
        if parts_of(bush) > 400:
            return 400
        if depth_of(bush) > 60:
            return 60
        self.pairs[self.at + 1:] = [(deed, bush)]
        self.at += 1
        return None

    def log(self):
        return tuple(deed for deed, _ in self.pairs[1:self.at + 1])


def parts_of(bush):
    return 1 + sum(map(parts_of, bush[1:]))


def depth_of(bush):
    return 1 + max(map(depth_of, bush[1:])) if bush else 0


def deed_by_chance(chance):
    return chance.choice([
        ("year", chance.choice([F, S, (), W, chain(3), wide(30)])), ("mirror",), ("cut", chance.randrange(6)),
        ("rename", chance.choice("fsab"), chance.choice("fsab")), ("rename", "w", "f"),
    ])


def call(gardener, deed):
    """Do a deed by the method of its name."""
    kind, *rest = deed
    return getattr(gardener, kind)(*rest)


class Odd(Exception):
    pass


class GardenerTest(unittest.TestCase):
    def assert_as(self, gardener, plain):
        log = plain.log()
        self.assertEqual(gardener.log, log)
        self.assertIs(type(gardener.log), tuple)
        self.assertEqual(gardener.standing, plain.pairs[plain.at][1])
        self.assertEqual(len(gardener), len(log))
        self.assertIs(is_log(gardener.log), True)

    def test_example(self):
        a = Gardener(S)
        self.assertEqual(
            [a.year(F), a.rename("s", "q"), a.standing, a.undo(), a.standing, a.redo(), a.cut(1), a.standing, len(a),
             a.log[2],
             a == Gardener(F)],
            [None, None, ("q", ("f", (), ())), None, ("s", ("f", (), ())), None, None, ("q", ()), 3, ("cut", 1), False],
        )

    def test_beside_a_plain_list(self):
        told = set()
        for seed in range(150):
            chance = random.Random(seed)
            bush = chance.choice(BUSHES)
            gardener, plain = Gardener(bush), Plain(bush)
            for _ in range(60):
                kind = chance.choice(("undo", "redo", "do", "do", "do", "wrong", "attempt"))
                told.add(self.step(chance, kind, gardener, plain))
                self.assert_as(gardener, plain)
            self.assertEqual(gardener.standing, tended(bush, gardener.log))
        self.assertTrue({None, 20, 400, NothingToUndo, NothingToRedo, Odd} <= told, told)

    def step(self, chance, kind, gardener, plain):
        """Do something to both, and return what error, or which limit, came of it."""
        if kind == "undo":
            error = raised_by(gardener.undo)
            expected = None if plain.at else NothingToUndo
            plain.at -= expected is None
        elif kind == "redo":
            error = raised_by(gardener.redo)
            expected = None if plain.at + 1 < len(plain.pairs) else NothingToRedo
            plain.at += expected is None
        elif kind == "do":
            deed = deed_by_chance(chance)
            error = raised_by(call, gardener, deed)
            expected = plain.do(deed)
            self.assertEqual(error and error.limit, expected)
            return expected
        elif kind == "wrong":
            error = raised_by(call, gardener, chance.choice([("year", ("f",)), ("cut", 61), ("rename", "a", "B")]))
            self.assertIn(type(error), (InvalidBush, InvalidDepth, InvalidLetter))
            return type(error)
        else:
            return self.step_by_attempt(chance, gardener, plain)
        self.assertIs(type(error) if error else None, expected)
        return expected

    def step_by_attempt(self, chance, gardener, plain):
        kept, fails = plain.copy(), chance.random() < 0.5

        def action(mine):
            self.assertIs(mine, gardener)
            for _ in range(chance.randrange(5)):
                self.step(chance, chance.choice(("undo", "redo", "do", "do", "wrong", "attempt")), gardener, plain)
                self.assert_as(gardener, plain)
            if fails:
                raise Odd("this one")
            return "done"
        if fails:
            with self.assertRaises(Odd) as caught:
                gardener.attempt(action)
            self.assertEqual(str(caught.exception), "this one")
            plain.pairs, plain.at = kept.pairs, kept.at
            return Odd
        self.assertEqual(gardener.attempt(action), "done")
        return None

    def test_each_method_returns_none_and_each_deed_stands_in_the_log(self):
        gardener = Gardener(W)
        self.assertEqual([gardener.log, gardener.standing, len(gardener)], [(), W, 0])
        self.assertEqual([gardener.year(S), gardener.mirror(), gardener.rename("f", "f"), gardener.cut(0),
                          gardener.undo(),
                          gardener.redo()], [None] * 6)
        self.assertEqual(gardener.log, (("year", S), ("mirror",), ("rename", "f", "f"), ("cut", 0)))
        self.assertEqual(gardener.standing, ())
        found = []
        while len(gardener):
            found.append(gardener.standing)
            gardener.undo()
        self.assertEqual([*found, gardener.standing],
                         tended_on(W, (("year", S), ("mirror",), ("rename", "f", "f"), ("cut", 0)))[::-1])

    def test_wrong_bushes(self):
        for wrong in NO_BUSHES + ODD_VALUES:
            self.assertIs(type(raised_by(Gardener, wrong)), InvalidBush)
        self.assertRaises(TypeError, Gardener)
        self.assertRaises(TypeError, Gardener, F, F)


class ErrorsTest(unittest.TestCase):
    def full(self, bush=F):
        gardener = Gardener(bush)
        for _ in range(20):
            gardener.mirror()
        return gardener

    def test_wrong_arguments_in_their_order(self):
        for gardener in (Gardener(F), self.full(), self.full(wide(400))):
            log = gardener.log
            for wrong in NO_BUSHES + ODD_VALUES:
                self.assertIs(type(raised_by(gardener.year, wrong)), InvalidBush, wrong)
            for wrong in NO_LETTERS:
                self.assertIs(type(raised_by(gardener.rename, wrong, "a")), InvalidLetter, wrong)
                self.assertIs(type(raised_by(gardener.rename, "a", wrong)), InvalidLetter, wrong)
                self.assertIs(type(raised_by(gardener.rename, wrong, wrong)), InvalidLetter, wrong)
            for wrong in NO_DEPTHS:
                self.assertIs(type(raised_by(gardener.cut, wrong)), InvalidDepth, wrong)
            self.assertEqual(gardener.log, log)
        for method, arguments in (("year", ()), ("mirror", (1,)), ("rename", ("a",)), ("cut", ()), ("undo", (1,)),
                                  ("redo", (1,))):
            self.assertRaises(TypeError, getattr(Gardener(F), method), *arguments)

    def test_twenty_deeds_and_one_more(self):
        gardener = self.full()
        self.assertEqual(len(gardener), 20)
        for deed in (("year", S), ("mirror",), ("rename", "a", "b"), ("cut", 0)):
            error = raised_by(call, gardener, deed)
            self.assertEqual((type(error), error.limit), (TooMany, 20))
        # Those that are taken back do not count, nor do they come back behind a new one.
        gardener.undo()
        gardener.undo()
        self.assertIsNone(raised_by(gardener.cut, 0))
        self.assertIs(type(raised_by(gardener.redo)), NothingToRedo)
        self.assertIsNone(raised_by(gardener.cut, 0))
        self.assertEqual(raised_by(gardener.cut, 0).limit, 20)
        gardener.undo()
        self.assertIsNone(raised_by(gardener.redo))
        self.assertEqual([len(gardener), raised_by(gardener.mirror).limit], [20, 20])

    def test_twenty_deeds_go_ahead_of_parts_and_these_ahead_of_depths(self):
        self.assertEqual(raised_by(self.full(wide(400)).year, F).limit, 20)
        self.assertEqual(raised_by(self.full(chain(60)).year, S).limit, 20)
        self.assertEqual(raised_by(Gardener(wide(400)).year, F).limit, 400)
        self.assertEqual(raised_by(Gardener(chain(60)).year, S).limit, 60)
        self.assertEqual(raised_by(Gardener(("f", chain(59), wide(330))).year, S).limit, 400)
        self.assertIsNone(raised_by(Gardener(S).year, wide(399)))
        self.assertEqual(raised_by(Gardener(S).year, wide(400)).limit, 400)
        self.assertIsNone(raised_by(Gardener(chain(23)).year, chain(37)))
        self.assertEqual(raised_by(Gardener(chain(24)).year, chain(37)).limit, 60)
        self.assertEqual(raised_by(Gardener(doubled(7)).year, doubled(1)).limit, 400)

    def test_an_error_changes_nothing(self):
        gardener = Gardener(chain(60))
        gardener.mirror()
        gardener.cut(59)
        gardener.undo()
        for wrong in (("year", S), ("year", ("f",)), ("cut", 61), ("rename", "a", "")):
            self.assertIsNotNone(raised_by(call, gardener, wrong))
            self.assertEqual([gardener.log, gardener.standing], [(("mirror",),), chain(60)])
        # What was taken back can be done again still, as no new deed was done.
        self.assertIsNone(gardener.redo())
        self.assertEqual([gardener.standing, raised_by(gardener.redo).__class__], [chain(59), NothingToRedo])
        gardener.undo()
        gardener.undo()
        self.assertIs(type(raised_by(gardener.undo)), NothingToUndo)
        self.assertEqual([gardener.redo(), gardener.redo(), gardener.log], [None, None, (("mirror",), ("cut", 59))])


class AttemptTest(unittest.TestCase):
    def test_errors_of_any_kind(self):
        def ends_with(error):
            def action(gardener):
                gardener.undo()
                gardener.year(S)
                gardener.mirror()
                raise error
            return action
        for error in (Odd(), ValueError("x"), KeyError(1), KeyboardInterrupt(), SystemExit(2), GeneratorExit(),
                      StopIteration(1),
                      RecursionError(), TooMany(7), NothingToUndo(), AssertionError()):
            gardener = Gardener(F)
            gardener.cut(1)
            gardener.rename("f", "g")
            gardener.mirror()
            gardener.undo()
            with self.assertRaises(type(error)) as caught:
                gardener.attempt(ends_with(error))
            self.assertIs(caught.exception, error)
            self.assertEqual([gardener.log, gardener.standing], [(("cut", 1), ("rename", "f", "g")), ("g", (), ())])
            self.assertEqual([gardener.redo(), gardener.log[2:], raised_by(gardener.redo).__class__],
                             [None, (("mirror",),), NothingToRedo])

    def test_errors_of_the_gardener_and_of_what_is_no_function(self):
        gardener = Gardener(chain(60))
        gardener.mirror()
        error = raised_by(gardener.attempt, lambda mine: (mine.undo(), mine.cut(60), mine.year(S)))
        self.assertEqual([error.limit, gardener.log], [60, (("mirror",),)])
        self.assertIs(type(raised_by(gardener.attempt, lambda mine: [mine.undo(), mine.undo()])), NothingToUndo)
        for wrong in (None, 7, "x", (), [], F):
            self.assertRaises(TypeError, gardener.attempt, wrong)
        self.assertRaises(TypeError, gardener.attempt, lambda: None)
        self.assertEqual([gardener.log, gardener.standing], [(("mirror",),), chain(60)])

    def test_what_is_returned(self):
        gardener = Gardener(S)
        for value in (None, False, 0, (), [], "x", gardener, Odd()):
            self.assertIs(gardener.attempt(lambda mine: value), value)
        self.assertIs(gardener.attempt(lambda mine: mine), gardener)
        self.assertIsNone(gardener.attempt(lambda mine: mine.mirror()))
        self.assertEqual(gardener.log, (("mirror",),))

    def test_attempts_within_attempts(self):
        gardener = Gardener(S)

        def fails(mine):
            mine.year(S)
            mine.undo()
            raise Odd()

        def caught(mine):
            mine.year(F)
            log = mine.log
            self.assertRaises(Odd, mine.attempt, fails)
            self.assertEqual(mine.log, log)
            self.assertIs(type(raised_by(mine.redo)), NothingToRedo)
            mine.cut(1)
            return mine.standing

        def goes_on(mine):
            mine.mirror()
            mine.attempt(caught)
            return mine.attempt(fails)
        self.assertEqual(gardener.attempt(caught), ("s", ()))
        self.assertEqual(gardener.log, (("year", F), ("cut", 1)))
        gardener.undo()
        self.assertRaises(Odd, gardener.attempt, goes_on)
        self.assertEqual(gardener.log, (("year", F),))
        self.assertIsNone(gardener.redo())
        self.assertEqual(gardener.log, (("year", F), ("cut", 1)))


class EqualityTest(unittest.TestCase):
    def made(self, bush, *deeds):
        gardener = Gardener(bush)
        for deed in deeds:
            call(gardener, deed)
        return gardener

    def test_first_bushes_and_logs(self):
        gardener = self.made(F, ("mirror",))
        self.assertTrue(gardener == self.made(F, ("mirror",)))
        self.assertFalse(gardener != self.made(F, ("mirror",)))
        for other in (self.made(F), self.made(F, ("mirror",), ("mirror",)), self.made(W, ("mirror",)),
                      self.made(F, ("cut", 1)),
                      self.made(("f", (), ()), ("year", ()))):
            self.assertFalse(gardener == other)
            self.assertTrue(gardener != other)
        # What stands, and what was taken back, does not count.
        self.assertFalse(self.made(F, ("mirror",)) == self.made(F))
        back = self.made(F, ("mirror",), ("cut", 0))
        back.undo()
        self.assertTrue(gardener == back)
        self.assertTrue(self.made(F) == Gardener(("f", (), ())))

    def test_other_values(self):
        gardener = Gardener(())
        for other in [*ODD_VALUES, (), 0, F, gardener.log, gardener.standing, object(), Gardener]:
            if not isinstance(other, Gardener):
                self.assertIs(gardener == other, False)
                self.assertIs(gardener != other, True)
                self.assertIs(other == gardener, False)

        class Like:
            log, standing, _first, _log = (), (), (), ()
        self.assertIs(gardener == Like(), False)
        self.assertTrue(gardener == gardener)

    def test_no_iterating_and_the_length(self):
        gardener = self.made(F, ("mirror",), ("cut", 1))
        for goes_over in (iter, list, tuple, sorted, set, sum, max, lambda value: [*value], lambda value: 1 in value):
            self.assertRaises(TypeError, goes_over, gardener)
        with self.assertRaises(TypeError):
            first, second = gardener
        with self.assertRaises(TypeError):
            gardener[0]
        self.assertEqual([len(gardener), len(Gardener(F))], [2, 0])

    def test_two_gardeners_do_not_share_anything(self):
        one, two = Gardener(F), Gardener(F)
        one.mirror()
        one.undo()
        self.assertIs(type(raised_by(two.redo)), NothingToRedo)
        two.cut(0)
        self.assertEqual([one.log, one.standing, two.log, two.standing], [(), F, (("cut", 0),), ()])

    def test_properties_can_not_be_assigned(self):
        gardener = self.made(F, ("mirror",))
        for name in ("log", "standing"):
            self.assertRaises(AttributeError, setattr, gardener, name, ())
        self.assertEqual([gardener.log, gardener.standing], [(("mirror",),), F])
