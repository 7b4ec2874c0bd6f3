"""[44]: the parts of a bush; with [4], [5], [8]."""

import unittest

from tests.samples import F, S, W, chain, count_parts, doubled, lesser_first, roads_of, small_bushes, wide
from tipwoods.bushparts import count_standing, count_unlike_parts, greatest_twin, letter_counts, standing_roads


class BushPartsTest(unittest.TestCase):
    def test_examples(self):
        bush = ("f", S, F)
        self.assertEqual([
            letter_counts(bush), standing_roads(bush, ()), count_standing(("f", F, F), F), count_unlike_parts(bush),
        ], [(("f", 2), ("s", 1)), [(0, 0), (1, 0), (1, 1)], 2, 4])
        self.assertEqual([greatest_twin(("f", ("s", F), F)), greatest_twin(F), greatest_twin(S), standing_roads(S, F)],
                         [("f", (), ()), (), None, []])

    def test_the_tip(self):
        self.assertEqual([letter_counts(()), standing_roads((), ()), count_standing((), ()), count_unlike_parts(()),
                          greatest_twin(()), count_standing((), S)], [(), [()], 1, 1, None, 0])

    def test_letters(self):
        self.assertEqual(letter_counts(("z", ("a", ()), ("m", ("a", ()), ()))), (("a", 2), ("m", 1), ("z", 1)))
        self.assertEqual(letter_counts(chain(60, "q")), (("q", 60),))

    def test_shorter_roads_come_first(self):
        self.assertEqual(standing_roads(("f", ("f", S, ()), S), ()), [(0, 1), (1, 0), (0, 0, 0)])
        self.assertEqual(standing_roads(("f", ("f", S, ()), S), S), [(1,), (0, 0)])

    def test_a_bush_stands_in_itself(self):
        for bush in (F, S, W, wide(400), chain(60)):
            self.assertEqual(standing_roads(bush, bush), [()])

    def test_equal_parts_that_are_not_one_object(self):
        made = [("f", ("s", ()), ("s", ())) for _ in range(2)]
        self.assertEqual(count_unlike_parts(("g", *made)), 4)
        self.assertEqual(greatest_twin(("g", *made)), W)

    def test_unlike_parts_have_unlike_letters_or_branches(self):
        self.assertEqual(count_unlike_parts(("f", ("f", ()), ("g", ()), ("f", (), ()))), 5)
        self.assertEqual(count_unlike_parts(chain(60)), 61)
        self.assertEqual(count_unlike_parts(doubled(7)), 8)

    def test_the_first_of_several_greatest_twins(self):
        self.assertEqual(greatest_twin(("f", S, S, ("a", ()), ("a", ()))), ("a", ()))
        self.assertEqual(greatest_twin(("f", ("a", ()), ("b", ()), ("b", ()), ("a", ()))), ("a", ()))
        self.assertEqual(greatest_twin(("f", ("b", F), ("b", F), ("b", S, ()), ("b", S, ()))), ("b", F))
        deep, flat = ("a", ("a", ("a", ()))), ("a", (), (), ())
        self.assertEqual(greatest_twin(("f", flat, deep, flat, deep)), flat[:1] + flat[1:])
        self.assertEqual(greatest_twin(("f", deep[1], flat, deep[1], flat, F)), flat)

    def test_more_parts_come_ahead_of_more_knots(self):
        chained, bunch = ("z", ("z", ())), ("y", (), (), (), ())
        self.assertEqual(greatest_twin(("f", chained, bunch, chained, bunch)), bunch)

    def test_beside_all_roads(self):
        for bush in small_bushes(3) + [W, ("f", W, F, W), ("f", ("s", F), F), wide(60)]:
            roads = roads_of(bush)
            parts = list(roads.values())
            unlike = sorted(set(parts))
            self.assertEqual(count_unlike_parts(bush), len(unlike))
            letters = [part[0] for part in parts if part]
            counts = tuple((letter, letters.count(letter)) for letter in sorted(set(letters)))
            self.assertEqual(letter_counts(bush), counts)
            for other in unlike + [F, ("z", ())]:
                found = lesser_first(road for road in roads if roads[road] == other)
                self.assertEqual(standing_roads(bush, other), found)
                self.assertEqual(count_standing(bush, other), len(found))
            twins = sorted((part for part in unlike if parts.count(part) > 1), key=lambda part: -count_parts(part))
            self.assertEqual(greatest_twin(bush), twins[0] if twins else None)
