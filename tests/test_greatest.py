"""[2], [54] to [68]: the greatest inputs, each of which must be told within a few seconds."""

import random
import time
import unittest

from tests.samples import F, S, chain, doubled, letters, raised_by, wide
from tipwoods import (
    bunches, bunchways, formcuts, forms, longcounts, longroads, longtips, powers, roadsapart, roadwords, rounds,
    sharedyears, tipclasses, turnedcopies, turnings,
)

N = 10 ** 30
MOST_SECONDS = 3
BIG_ROWS = [((wide(400), N),) * 12, ((chain(60), N),) * 12, ((doubled(7), N),) * 12, ((F, N), (S, N)) * 6]
BIG_BUSHES = [wide(400), chain(60), doubled(7), ("f", chain(59), chain(59), chain(59), chain(59), chain(59), chain(59))]
BIG_BUNCHES = [
    tuple(chain(knots) for knots in range(55, 61)),
    tuple(wide(parts) for parts in range(395, 401)),
    tuple(letters(word) for word in (
        "a" + "b" * 42, "a", "abbbbbb", "bba", "b" + "a" * 54, "a" * 35 + "b",
    )),
    tuple(letters(("abaababaabaab" * 5)[:size]) for size in (60, 59, 55, 34, 21, 13)),
    tuple(letters(("ab" * 30)[at:size]) for at, size in ((0, 60), (0, 59), (1, 60), (1, 58), (0, 57), (1, 55))),
]


def evenly(chance, parts, letters, most):
    """A bush with so many parts, all branches of a knot having about as many, with letters by chance."""
    if parts == 1:
        return ()
    many = min(parts - 1, most)
    sizes = [(parts - 1) // many + (at < (parts - 1) % many) for at in range(many)]
    chance.shuffle(sizes)
    return (chance.choice(letters), *[evenly(chance, size, letters, most) for size in sizes])


def shuffled(chance, bush):
    branches = [shuffled(chance, branch) for branch in bush[1:]]
    chance.shuffle(branches)
    return (*bush[:1], *branches)


def comb(letters, height):
    bush = ()
    for at in range(height):
        bush = (letters[at % len(letters)], bush, ())
    return bush


CHANCE = random.Random(11)
MANY_COPIES = [evenly(CHANCE, 400, signs, most) for signs in ("a", "ab", "abcdefghijklmnopqrstuvwxyz")
               for most in (2, 3, 4, 5, 6)]
# All knots at one depth are of one form, but with their branches in unlike orders.
KNOT = ("k", ("a", ("a", ()), ()), ("a", ("a", ()), ()), ("a", ("a", ()), ()), ("a", (), ()))
MANY_COPIES += [shuffled(CHANCE, ("r", *[("s", *[KNOT] * many)] * most)) for many, most in ((6, 3), (4, 5), (3, 6))]
MANY_COPIES += BIG_BUSHES + [comb("a", 60), comb("ab", 60), comb("abc", 60)]


class GreatestTest(unittest.TestCase):
    def assert_soon(self, function, *arguments):
        begin = time.perf_counter()
        raised_by(function, *arguments)
        self.assertLess(time.perf_counter() - begin, MOST_SECONDS, function.__name__)

    def test_long_rows(self):
        for row in BIG_ROWS:
            for function in (longcounts.long_depths, longcounts.tips_whole, longcounts.unlike_parts, longtips.near_runs,
                             longtips.far_runs):
                self.assert_soon(function, row)
            for number in (1, 10 ** 9 - 1, 10 ** 9):
                self.assert_soon(longcounts.tips_modulo, row, number)
                self.assert_soon(longcounts.knots_modulo, row, number)
            for number in (0, 10 ** 120 - 1, 10 ** 4000 - 1, 10 ** 4200):
                self.assert_soon(longtips.runs_of_tip, row, number)
            self.assert_soon(longroads.spot_at, row, (0,) * 1000)

    def test_runs(self):
        for row in BIG_ROWS:
            for runs in (longtips.near_runs(row), longtips.far_runs(row)):
                self.assert_soon(longtips.tip_of_runs, row, runs)
        runs = longtips.runs_of_tip(((F, N),), (4 ** 6600 - 1) // 3)
        self.assertEqual(len(runs), 13200)
        self.assert_soon(longtips.tip_of_runs, ((F, N),), runs)

    def test_rows_that_differ_far_behind(self):
        for row in BIG_ROWS:
            growth, _ = row[-1]
            for other in (row[:-1] + ((growth, N - 1),), row[:-1] + ((S, N),), row[:-1], row):
                self.assert_soon(longroads.unlike_way, row, other)
                self.assert_soon(longroads.unlike_way, other, row)

    def test_powers_and_rounds(self):
        for bush in BIG_BUSHES + [letters("a" * 59 + "b"), letters("ab" * 30)]:
            for function in (powers.root_of, rounds.round_bushes):
                self.assert_soon(function, bush)
            self.assert_soon(powers.power_of, bush, 60)
            for other in BIG_BUSHES + [letters("ab" * 30)]:
                for function in (powers.do_exchange, powers.common_root, rounds.round_index, sharedyears.shared_first,
                                 sharedyears.shared_last):
                    self.assert_soon(function, bush, other)
                self.assert_soon(rounds.led_over, bush, other, 60)
                self.assert_soon(sharedyears.put_between, bush, other, other)

    def test_bunches(self):
        for bunch in BIG_BUNCHES:
            for function in (bunches.is_bunch, bunches.left_overs, bunches.two_ways, bunches.base_of):
                self.assert_soon(function, bunch)
            for bush in (*bunch, chain(60), doubled(7)):
                self.assert_soon(bunchways.count_ways, bunch, bush)
                self.assert_soon(bunchways.least_way, bunch, bush)

    def test_bushes_without_order(self):
        for bush in MANY_COPIES:
            other = shuffled(CHANCE, bush)
            for function in (forms.form_of, formcuts.cut_sizes, turnedcopies.count_copies, turnedcopies.all_copies,
                             turnedcopies.copy_number, tipclasses.tip_classes):
                self.assert_soon(function, bush)
                self.assert_soon(function, other)
            self.assert_soon(formcuts.form_cut, bush, 11)
            for function in (forms.alike_without_order, forms.unlike_form, turnings.fewest_turns):
                self.assert_soon(function, bush, other)

    def test_rows_of_twelve_growths(self):
        for bush in MANY_COPIES:
            row = (bush,) * 12
            other = (shuffled(CHANCE, bush),) * 12
            for function in (formcuts.form_primes, tipclasses.class_sizes, turnings.own_mirror_row, roadwords.words_of,
                             roadwords.road_letters_of, roadwords.depths_of):
                self.assert_soon(function, row)
            self.assert_soon(turnedcopies.row_copies, row, 10 ** 9)
            for function in (formcuts.alike_rows, roadsapart.word_apart, roadsapart.letters_apart,
                             roadsapart.depth_apart):
                self.assert_soon(function, row, other)
