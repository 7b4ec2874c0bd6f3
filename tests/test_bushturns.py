"""[45]: mirrors and names; with [3], [9]."""

import itertools
import unittest

from tests.samples import D, F, LETTERS, NO_NAMES, S, W, chain, raised_by, roads_of, small_bushes, wide
from tipwoods.bushturns import is_own_mirror, mirrored_bush, mirrored_road, names_between, plain_bush, renamed_bush
from tipwoods.errors import InvalidNames, InvalidRoad

NEXT = LETTERS[1:] + "a"
BACK = LETTERS[::-1]


class MirrorTest(unittest.TestCase):
    def test_examples(self):
        bush = ("f", S, F)
        self.assertEqual([mirrored_bush(bush), mirrored_road(bush, (1, 0)), is_own_mirror(("f", F, F)),
                          is_own_mirror(bush)], [("f", ("f", (), ()), ("s", ())), (0, 1), True, False])

    def test_the_tip_and_the_greatest(self):
        self.assertEqual([mirrored_bush(()), mirrored_road((), ()), is_own_mirror(())], [(), (), True])
        self.assertIs(is_own_mirror(chain(60)), True)
        self.assertEqual(mirrored_bush(mirrored_bush(wide(400))), wide(400))

    def test_all_branches_of_all_knots_turn(self):
        bush = ("a", ("b", (), S, F), (), ("c", ()), D)
        self.assertEqual(mirrored_bush(bush), (
            "a", ("a", ("a", (), ("a", ())), ("a", ("a", ()), ())), ("c", ()), (), ("b", F, S, ()),
        ))

    def test_roads_lead_to_mirrors(self):
        for bush in small_bushes(3) + [W, ("a", ("b", (), S, F), (), ("c", ()), D)]:
            mirror = mirrored_bush(bush)
            roads, turned = roads_of(bush), roads_of(mirror)
            self.assertEqual(sorted(mirrored_road(bush, road) for road in roads), sorted(turned))
            for road in roads:
                self.assertEqual(turned[mirrored_road(bush, road)], mirrored_bush(roads[road]))
            self.assertIs(is_own_mirror(bush), mirror == bush)

    def test_own_mirrors_turn_inside_too(self):
        self.assertIs(is_own_mirror(("f", ("f", S, ()), ("f", S, ()))), False)
        self.assertIs(is_own_mirror(("f", ("f", S, ()), ("f", (), S))), True)

    def test_wrong_roads(self):
        for road in ((0, 0), (2,), (-1,), (True,), None, [0], [], "0", 0, ("0",), (0, None), (10 ** 119,)):
            self.assertIs(type(raised_by(mirrored_road, F, road)), InvalidRoad, road)


class NamesTest(unittest.TestCase):
    def test_examples(self):
        self.assertEqual([
            renamed_bush(("f", S, ()), NEXT), plain_bush(("f", S, F)), names_between(S, ("a", ())),
            names_between(("f", S), ("s", ("f", ()))), names_between(("f", S), ("a", ("a", ()))),
        ], [
            ("g", ("t", ()), ()), ("a", ("b", ()), ("a", (), ())), (("s", "a"),), (("f", "s"), ("s", "f")), None,
        ])

    def test_renamed(self):
        alphabet = tuple((letter, ()) for letter in LETTERS)
        for names in (LETTERS, NEXT, BACK):
            for (letter, _), name in zip(alphabet, names):
                self.assertEqual(renamed_bush((letter, (letter, ()), F), names),
                                 (name, (name, ()), (names[5], (), ())))
        self.assertEqual(renamed_bush((), NEXT), ())
        self.assertEqual(renamed_bush(renamed_bush(wide(400), BACK), BACK), wide(400))

    def test_wrong_names(self):
        for names in NO_NAMES:
            if names != NEXT:
                self.assertIs(type(raised_by(renamed_bush, F, names)), InvalidNames, names)
        for at in range(26):
            self.assertIs(type(raised_by(renamed_bush, (), LETTERS[:at] + "~" + LETTERS[at + 1:])), InvalidNames)

    def test_plain_letters_come_in_the_order_of_the_text(self):
        bush = ("z", ("y", ("x", ())), ("x", ("w", ())))
        self.assertEqual(plain_bush(bush), ("a", ("b", ("c", ())), ("c", ("d", ()))))
        self.assertEqual(plain_bush(()), ())
        self.assertEqual(plain_bush(chain(60, "q")), chain(60, "a"))
        row = chain(0)
        for letter in LETTERS:
            row = (letter, row)
        back = ()
        for letter in BACK:
            back = (letter, back)
        self.assertEqual(plain_bush(row), back)

    def test_names_are_told_for_each_letter_in_order(self):
        self.assertEqual(names_between((), ()), ())
        self.assertEqual(names_between(F, F), (("f", "f"),))
        self.assertEqual(names_between(("z", ("a", ()), ("m", ())), ("b", ("c", ()), ("a", ()))),
                         (("a", "c"), ("m", "a"), ("z", "b")))

    def test_no_names_between(self):
        twice = ("f", ("f", ()))
        pairs = [((), S), (S, ()), (F, S), (F, ("f", (), S)), (("f", S), twice), (twice, ("f", S))]
        for bush, other in pairs:
            self.assertIsNone(names_between(bush, other))

    def test_beside_all_names_of_three_letters(self):
        kinds = (("a", 1), ("a", 2), ("b", 1), ("c", 2))
        bushes = small_bushes(2, kinds)
        tables = ["".join(names) + LETTERS[3:] for names in itertools.permutations("abc")]
        for bush in bushes:
            for other in bushes:
                found = [names for names in tables if renamed_bush(bush, names) == other]
                pairs = names_between(bush, other)
                self.assertEqual(pairs is None, not found)
                self.assertEqual(plain_bush(bush) == plain_bush(other), bool(found))
                if found:
                    letters = sorted({part[0] for part in roads_of(bush).values() if part})
                    self.assertEqual(pairs, tuple((letter, found[0][LETTERS.index(letter)]) for letter in letters))
