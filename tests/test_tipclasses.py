"""[65]: classes of tips; with [5], [7], [23]."""

import itertools
import unittest

from tests.samples import (
    D, F, S, W, WIDE_KINDS, chain, copies_with_turns, count_parts, doubled, plainly_grown_by, raised_by, roads_of,
    small_bushes, wide,
)
from tipwoods.errors import TooMany
from tipwoods.tipclasses import class_sizes, tip_classes

G = ("f", S, ())
FAR = ("f", F, ())
MANY = small_bushes(3) + small_bushes(4, (("a", 1), ("a", 2))) + small_bushes(4, WIDE_KINDS)[::4] + [F, S, W, D, G, FAR]


def plain_form(part):
    return (*part[:1], *sorted(map(plain_form, part[1:])))


def are_alike(forms, road, other):
    """Whether two tips are alike, by the forms of what each beginning of their roads leads to."""
    return len(road) == len(other) and all(forms[road[:size]] == forms[other[:size]] for size in range(len(road) + 1))


def plain_classes(bush):
    forms = {road: plain_form(part) for road, part in roads_of(bush).items()}
    roads = sorted(road for road, form in forms.items() if not form)
    return sorted({
        tuple(tip for tip, other in enumerate(roads) if are_alike(forms, road, other)) for road in roads
    })


def sizes_of(classes):
    sizes = sorted(len(tips) for tips in classes)
    return tuple((size, sizes.count(size)) for size in sorted(set(sizes)))


def with_sizes(sizes):
    """A growth the classes of tips of which have told sizes."""
    return ("c", *[(letter, *[()] * size) for letter, size in zip("defghi", sizes)])


class ClassesTest(unittest.TestCase):
    def test_examples(self):
        self.assertEqual(
            [tip_classes(FAR), tip_classes(D), tip_classes(()), class_sizes((FAR, F)), class_sizes((G,) * 12)],
            [[(0, 1), (2,)], [(0, 3), (1, 2)], [(0,)], ((2, 1), (4, 1)), ((1, 4096),)],
        )

    def test_beside_the_roads_of_each_two_tips(self):
        for bush in MANY:
            classes = tip_classes(bush)
            self.assertEqual(classes, plain_classes(bush))
            self.assertEqual(class_sizes((bush,)), sizes_of(classes))

    def test_copies_have_the_same_sizes(self):
        for bush in MANY[::5] + [("r", D, G, D)]:
            for copy in copies_with_turns(bush):
                self.assertEqual(class_sizes((copy,)), class_sizes((bush,)))

    def test_tips_with_one_form_ahead_of_them_but_unlike_roads(self):
        # Both branches are the same knot, but stand below unlike ones.
        bush = ("r", ("a", F, ()), ("b", F, ()))
        self.assertEqual(tip_classes(bush), [(0, 1), (2,), (3, 4), (5,)])
        self.assertEqual(tip_classes(("r", ("a", F), F)), [(0, 1), (2, 3)])
        self.assertEqual(tip_classes(("r", (), ("r", (), ("r", (), ())))), [(0,), (1,), (2, 3)])

    def test_the_greatest_ones(self):
        self.assertEqual(tip_classes(doubled(7)), [tuple(range(128))])
        self.assertEqual(tip_classes(chain(60)), [(0,)])
        tips = [tip for found in tip_classes(wide(400)) for tip in found]
        self.assertEqual(sorted(tips), list(range(str(wide(400)).count("()"))))
        comb = F
        for _ in range(59):
            comb = ("f", comb, ())
        self.assertEqual(tip_classes(comb), [(0, 1)] + [(tip,) for tip in range(2, 61)])


class SizesTest(unittest.TestCase):
    def test_beside_drawn_bushes(self):
        few = [F, S, G, D, (), FAR, ("a", (), F, S), with_sizes((1, 2, 3))]
        for many in range(4):
            for row in itertools.product(few, repeat=many):
                bush = plainly_grown_by((), row)
                if count_parts(bush) <= 120:
                    self.assertEqual(class_sizes(row), sizes_of(plain_classes(bush)))

    def test_rows_that_can_not_be_drawn(self):
        self.assertEqual(class_sizes(()), ((1, 1),))
        self.assertEqual(class_sizes(((),) * 12), ((1, 1),))
        self.assertEqual(class_sizes((F,) * 12), ((4096, 1),))
        self.assertEqual(class_sizes((chain(60),) * 12), ((1, 1),))
        self.assertEqual(class_sizes((doubled(7),) * 12), ((128 ** 12, 1),))
        # One of two classes in each year: so many ways to have so many of the greater ones.
        ways = [1]
        for _ in range(12):
            ways = [one + other for one, other in zip([0] + ways, ways + [0])]
        self.assertEqual(class_sizes((FAR,) * 12), tuple((2 ** at, many) for at, many in enumerate(ways)))

    def test_the_tips_are_all_counted(self):
        for row in ((FAR, D, G), (wide(400),) * 2, (with_sizes((1, 4, 6)), FAR, wide(100))):
            tips = 1
            for growth in row:
                tips *= str(growth).count("()")
            self.assertEqual(sum(size * many for size, many in class_sizes(row)), tips)

    def test_two_hundred_pairs_and_one_more(self):
        rows = {
            200: [(1, 2, 5), (1, 4, 6), (1, 2, 3), (1, 2), (1, 2), (1, 6), (1, 2, 3), (1, 4, 6), (1, 2, 3), (1, 3),
                  (1, 2, 3), (1, 2, 3)],
            201: [(2, 3, 5), (1, 2, 3), (1, 2, 5), (1, 2, 4), (1, 2, 3), (2, 3), (1, 4, 6), (1, 6), (1, 5)],
        }
        for many, sizes in rows.items():
            products = {1: 1}
            for row in sizes:
                longer = {}
                for size, times in products.items():
                    for more in row:
                        longer[size * more] = longer.get(size * more, 0) + times
                products = longer
            self.assertEqual(len(products), many)
            row = tuple(with_sizes(each) for each in sizes)
            if many == 200:
                self.assertEqual(class_sizes(row), tuple(sorted(products.items())))
            else:
                error = raised_by(class_sizes, row)
                self.assertEqual((type(error), error.limit), (TooMany, 200))
        for at in range(5):
            error = raised_by(class_sizes, tuple(with_sizes((2, 3, 5, 4, 6, 1)) for _ in range(12 - at)))
            self.assertEqual((type(error), error.limit), (TooMany, 200))
