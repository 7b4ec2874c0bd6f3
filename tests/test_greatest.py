"""[2], [54] to [83]: the greatest inputs, each of which must be told within a few seconds."""

import random
import time
import unittest

from tests.samples import F, S, chain, doubled, letters, raised_by, wide
from tests.test_mixedbushes import tips_as
from tipwoods import (
    bunches, bunchways, depthbushes, depthcuts, doubleroads, formcuts, forms, gardens, graftrows, grafts, graftwoods,
    heardroads, logforms, longcounts, longroads, longtips, mixedalike, mixedbushes, mixedyears, origins, powers,
    roadsapart, roadwords, rounds, sharedyears, tipclasses, tops, turnedcopies, turnings, wordbushes,
)
from tipwoods.gardeners import Gardener

N = 10 ** 30
MOST_SECONDS = 3
BIG_ROWS = [((wide(400), N),) * 12, ((chain(60), N),) * 12, ((doubled(7), N),) * 12, ((F, N), (S, N)) * 6]
BIG_BUSHES = [wide(400), chain(60), doubled(7), ("f", chain(59), chain(59), chain(59), chain(59), chain(59), chain(59))]
BIG_BUNCHES = [
    tuple(chain(knots) for knots in range(55, 61)),
    tuple(wide(parts) for parts in range(395, 401)),
    tuple(letters(word) for word in (
        "a" + "b" * 42, "a", "abbbbbb", "bba", "b" + "a" * 54, "a" * 35 + "b",
    )),
    tuple(letters(("abaababaabaab" * 5)[:size]) for size in (60, 59, 55, 34, 21, 13)),
    tuple(letters(("ab" * 30)[at:size]) for at, size in ((0, 60), (0, 59), (1, 60), (1, 58), (0, 57), (1, 55))),
]


def evenly(chance, parts, letters, most):
    """A bush with so many parts, all branches of a knot having about as many, with letters by chance."""
    if parts == 1:
        return ()
    many = min(parts - 1, most)
    sizes = [(parts - 1) // many + (at < (parts - 1) % many) for at in range(many)]
    chance.shuffle(sizes)
    return (chance.choice(letters), *[evenly(chance, size, letters, most) for size in sizes])


def shuffled(chance, bush):
    branches = [shuffled(chance, branch) for branch in bush[1:]]
    chance.shuffle(branches)
    return (*bush[:1], *branches)


def comb(letters, height):
    bush = ()
    for at in range(height):
        bush = (letters[at % len(letters)], bush, ())
    return bush


CHANCE = random.Random(11)
MANY_COPIES = [evenly(CHANCE, 400, signs, most) for signs in ("a", "ab", "abcdefghijklmnopqrstuvwxyz")
               for most in (2, 3, 4, 5, 6)]
# All knots at one depth are of one form, but with their branches in unlike orders.
KNOT = ("k", ("a", ("a", ()), ()), ("a", ("a", ()), ()), ("a", ("a", ()), ()), ("a", (), ()))
MANY_COPIES += [shuffled(CHANCE, ("r", *[("s", *[KNOT] * many)] * most)) for many, most in ((6, 3), (4, 5), (3, 6))]
MANY_COPIES += BIG_BUSHES + [comb("a", 60), comb("ab", 60), comb("abc", 60)]


class SoonCase(unittest.TestCase):
    def assert_soon(self, function, *arguments):
        begin = time.perf_counter()
        raised_by(function, *arguments)
        self.assertLess(time.perf_counter() - begin, MOST_SECONDS, function.__name__)


class GreatestTest(SoonCase):
    def test_long_rows(self):
        for row in BIG_ROWS:
            for function in (longcounts.long_depths, longcounts.tips_whole, longcounts.unlike_parts, longtips.near_runs,
                             longtips.far_runs):
                self.assert_soon(function, row)
            for number in (1, 10 ** 9 - 1, 10 ** 9):
                self.assert_soon(longcounts.tips_modulo, row, number)
                self.assert_soon(longcounts.knots_modulo, row, number)
            for number in (0, 10 ** 120 - 1, 10 ** 4000 - 1, 10 ** 4200):
                self.assert_soon(longtips.runs_of_tip, row, number)
            self.assert_soon(longroads.spot_at, row, (0,) * 1000)

    def test_runs(self):
        for row in BIG_ROWS:
            for runs in (longtips.near_runs(row), longtips.far_runs(row)):
                self.assert_soon(longtips.tip_of_runs, row, runs)
        runs = longtips.runs_of_tip(((F, N),), (4 ** 6600 - 1) // 3)
        self.assertEqual(len(runs), 13200)
        self.assert_soon(longtips.tip_of_runs, ((F, N),), runs)

    def test_rows_that_differ_far_behind(self):
        for row in BIG_ROWS:
            growth, _ = row[-1]
            for other in (row[:-1] + ((growth, N - 1),), row[:-1] + ((S, N),), row[:-1], row):
                self.assert_soon(longroads.unlike_way, row, other)
                self.assert_soon(longroads.unlike_way, other, row)

    def test_powers_and_rounds(self):
        for bush in BIG_BUSHES + [letters("a" * 59 + "b"), letters("ab" * 30)]:
            for function in (powers.root_of, rounds.round_bushes):
                self.assert_soon(function, bush)
            self.assert_soon(powers.power_of, bush, 60)
            for other in BIG_BUSHES + [letters("ab" * 30)]:
                for function in (powers.do_exchange, powers.common_root, rounds.round_index, sharedyears.shared_first,
                                 sharedyears.shared_last):
                    self.assert_soon(function, bush, other)
                self.assert_soon(rounds.led_over, bush, other, 60)
                self.assert_soon(sharedyears.put_between, bush, other, other)

    def test_bunches(self):
        for bunch in BIG_BUNCHES:
            for function in (bunches.is_bunch, bunches.left_overs, bunches.two_ways, bunches.base_of):
                self.assert_soon(function, bunch)
            for bush in (*bunch, chain(60), doubled(7)):
                self.assert_soon(bunchways.count_ways, bunch, bush)
                self.assert_soon(bunchways.least_way, bunch, bush)

    def test_bushes_without_order(self):
        for bush in MANY_COPIES:
            other = shuffled(CHANCE, bush)
            for function in (forms.form_of, formcuts.cut_sizes, turnedcopies.count_copies, turnedcopies.all_copies,
                             turnedcopies.copy_number, tipclasses.tip_classes):
                self.assert_soon(function, bush)
                self.assert_soon(function, other)
            self.assert_soon(formcuts.form_cut, bush, 11)
            for function in (forms.alike_without_order, forms.unlike_form, turnings.fewest_turns):
                self.assert_soon(function, bush, other)

    def test_rows_of_twelve_growths(self):
        for bush in MANY_COPIES:
            row = (bush,) * 12
            other = (shuffled(CHANCE, bush),) * 12
            for function in (formcuts.form_primes, tipclasses.class_sizes, turnings.own_mirror_row, roadwords.words_of,
                             roadwords.road_letters_of, roadwords.depths_of):
                self.assert_soon(function, row)
            self.assert_soon(turnedcopies.row_copies, row, 10 ** 9)
            for function in (formcuts.alike_rows, roadsapart.word_apart, roadsapart.letters_apart,
                             roadsapart.depth_apart):
                self.assert_soon(function, row, other)

    def test_counts_by_depths_and_words(self):
        most = 10 ** 18
        for counts in ((0,) + (most,) * 60, (0,) * 25 + (most,) * 36, (0,) * 60 + (most,), (0, 1) * 30 + (1,),
                       (most,) * 61):
            for function in (depthbushes.can_have_depths, depthbushes.fewest_by_depths, depthbushes.bush_by_depths):
                self.assert_soon(function, counts)
            for times in range(1, 13):
                self.assert_soon(depthcuts.depth_root, counts, times)
            for other in (counts, (1,) * 31, (0, 1) * 20, (most, 1), (most,), (1, most) * 15):
                self.assert_soon(depthcuts.cut_by_depths, counts, other)
        low = "".join(CHANCE.choice("abc") for _ in range(57))
        for number in (1, 6, most):
            words = tuple(sorted({low + "".join(CHANCE.choice("abcdefgh") for _ in range(3)): number
                                  for _ in range(200)}.items()))
            far = tuple(sorted({"".join(CHANCE.choice("ab") for _ in range(60)): number for _ in range(200)}.items()))
            one = tuple((low[:size], number) for size in range(1, 58))
            for counts in (words, far, one):
                for function in (wordbushes.can_have_words, wordbushes.fewest_by_words, wordbushes.bush_by_words):
                    self.assert_soon(function, counts)

    def test_tips_after_many_years(self):
        for bush in BIG_BUSHES + MANY_COPIES:
            for more in (0, 1, 60):
                self.assert_soon(depthcuts.tips_after, bush, 2000, more)
                self.assert_soon(depthcuts.tips_after, bush, 1999, more)

    def test_grafts(self):
        rows = [tuple((number, evenly(CHANCE, 33, "ab", most)) for number in numbers)
                for most in (1, 2, 3, 6) for numbers in ((0,) * 12, (100,) * 12, tuple(range(89, 101)),
                                                         tuple(range(11, -1, -1)))]
        rows = [row for row in rows if grafts.is_graft_row(row)]
        rows += [((0, chain(5)),) * 12, ((100, wide(400)),), ((99, wide(399)), (100, ())),
                 tuple((at, ()) for at in range(12))]
        self.assertGreater(len(rows), 15)
        for row in rows:
            for bush in BIG_BUSHES:
                self.assert_soon(grafts.grafted, bush, row)
            for function in (grafts.need_of, grafts.lot_of, graftwoods.wood_of, graftwoods.count_led):
                self.assert_soon(function, row)
            for index in range(len(row) - 1):
                self.assert_soon(graftrows.can_swap, row, index)
                self.assert_soon(graftrows.led_past, row, index)
            for other in rows:
                for function in (graftrows.same_grafts, graftrows.apart_bush, graftwoods.are_led):
                    self.assert_soon(function, row, other)

    def test_tops(self):
        for bush in BIG_BUSHES + MANY_COPIES:
            for function in (graftwoods.first_root, tops.count_knot_rows, tops.count_tops):
                self.assert_soon(function, bush)
            for other in (bush, shuffled(CHANCE, bush), wide(400), chain(60)):
                for function in (tops.is_top, tops.lot_between, tops.common_top, tops.joined_tops, tops.clash_road):
                    self.assert_soon(function, bush, other)


def sorted_by_chance(bush, sorts=4):
    """A bush with the sorts of its tips by chance."""
    return (bush[0], *[sorted_by_chance(branch, sorts) for branch in bush[1:]]) if bush else CHANCE.randrange(sorts)


def sorted_in_turn(bush, sorts, at):
    """A bush with the sorts of its tips in turn, and the number of the next one."""
    if not bush:
        return at % sorts, at + 1
    branches = []
    for branch in bush[1:]:
        found, at = sorted_in_turn(branch, sorts, at)
        branches.append(found)
    return (bush[0], *branches), at


def perfect(letters, depth):
    """A bush that branches in two at each depth, with these letters in turn."""
    return (letters[depth % len(letters)], *[perfect(letters, depth - 1)] * 2) if depth else ()


class GreatestMixedTest(SoonCase):
    def test_mixed_bushes(self):
        for shape in (wide(400), perfect("a", 7), comb("a", 60), evenly(CHANCE, 400, "a", 3), perfect("a", 3),
                      comb("a", 20)):
            row = tuple(tuple(sorted_by_chance(shape) for _ in range(4)) for _ in range(12))
            mixed = sorted_by_chance(shape)
            self.assert_soon(mixedbushes.mixed_grown, 4, mixed, row)
            self.assert_soon(mixedbushes.mixed_tips, 4, mixed, row)
            self.assert_soon(mixedbushes.mixed_tip, 4, mixed, row, 10 ** 11)
            # The last year alone is another one, at a tip alone.
            last = (*row[-1][:3], tips_as(shape, 3))
            for others in (row, row[:-1], (*row[:-1], last), row[1:]):
                self.assert_soon(mixedalike.grow_alike, 4, mixed, row, mixed, others)
                self.assert_soon(mixedalike.mixed_unlike, 4, mixed, row, mixed, others)
            for years in (10 ** 30, 10 ** 30 - 1):
                self.assert_soon(mixedyears.tips_in_year, 4, mixed, row[0], years, 10 ** 9)
            self.assert_soon(mixedyears.lots_of_years, 4, mixed, row[0])
            self.assert_soon(mixedyears.first_unlike, 4, mixed, row[0], mixed, row[1])
            self.assert_soon(mixedyears.undoing_change, 4, row[0])

    def test_parts_beside_each_other_in_many_ways(self):
        # Growths of unlike depths, all with one letter, which stand beside each other at nearly all of their parts.
        for first, second in ((7, 6), (7, 5), (6, 5), (5, 3), (3, 2)):
            rows = []
            for depth in (first, second):
                change = tuple(sorted_in_turn(perfect("a", depth), 4, at)[0] for at in (0, 1, 3, 2))
                rows.append((change,) * 12)
            self.assert_soon(mixedalike.mixed_unlike, 4, 0, rows[0], 0, rows[1])
            self.assert_soon(mixedalike.grow_alike, 4, 0, rows[0], 0, rows[1])
        for one, two in ((60, 59), (60, 37), (53, 60)):
            rows = [((chain(size, "a", 1), chain(size, "a", 2), chain(size, "a", 3), chain(size, "a", 0)),) * 12
                    for size in (one, two)]
            self.assert_soon(mixedalike.mixed_unlike, 4, 0, rows[0], 0, rows[1])

    def test_heard_roads(self):
        line = (("s", 0),) * 60
        stocks = [(S,) * 6, tuple(chain(size) for size in range(1, 7)), tuple(chain(size) for size in range(34, 40)),
                  (wide(40),) * 6, tuple(evenly(CHANCE, 40, "s", most) for most in range(1, 7)),
                  tuple(comb("s", height) for height in (19, 18, 17, 3, 2, 1))]
        for stock in stocks:
            for heard in (line, line[:59] + (("t", 0),), tuple(("s", CHANCE.randrange(2)) for _ in range(60)),
                          (("w", 0),) * 60):
                for function in (heardroads.first_fitting, heardroads.count_fitting, heardroads.heard_so_far):
                    self.assert_soon(function, stock, heard)
                self.assert_soon(heardroads.row_fits, stock, (0,) * 60, heard)
                others = [tuple(("s", CHANCE.randrange(2)) for _ in range(60)) for _ in range(4)]
                for heards in ((heard,), (heard,) * 6, (line, line[:59], line[:58], line[:57], line[:56], heard),
                               (line, heard, *others)):
                    self.assert_soon(heardroads.rows_fitting, stock, heards)
            self.assert_soon(doubleroads.each_road_tells, stock)
            self.assert_soon(doubleroads.double_road, stock)

    def test_heard_roads_that_fit_many_rows_each_but_few_together(self):
        # Growths that lead each road on by their own numbers of steps, with any of them next at each place.
        def led(steps):
            def way(index, left):
                return ("f", *[()] * index, way(index, left - 1)) if left else ()
            return ("f", *[way(index, many - 1) for index, many in enumerate(steps)])
        for steps, lengths in (
            (((1, 1, 2, 1, 2, 1), (2, 1, 1, 1, 1, 2), (1, 1, 1, 3, 1, 1), (1, 1, 2, 2, 1, 2), (1, 3, 1, 1, 2, 1),
              (1, 1, 1, 1, 1, 3)),
             (52, 60, 60, 60, 60, 60)),
            (((2, 2, 3, 2, 3, 1), (2, 1, 1, 1, 2, 1), (1, 1, 1, 1, 1, 1), (2, 2, 1, 2, 1, 1), (2, 2, 2, 1, 1, 3),
              (1, 1, 2, 2, 1, 2)),
             (60,) * 6),
            (((1, 1, 1, 1, 1, 1), (1, 1, 1, 1, 2, 2), (2, 1, 1, 1, 2, 3), (1, 1, 1, 2, 1, 1), (3, 1, 1, 1, 1, 1),
              (1, 3, 3, 1, 1, 2)),
             (60, 60, 60, 54, 59, 60)),
        ):
            heards = tuple((("f", index),) * length for index, length in enumerate(lengths))
            self.assert_soon(heardroads.rows_fitting, tuple(map(led, steps)), heards)

    def test_double_roads_that_are_far(self):
        stocks = [tuple(evenly(CHANCE, 40, "ab", most) for most in (2, 3, 4, 5, 6, 6)),
                  tuple(evenly(CHANCE, 40, "a", 6) for _ in range(6)),
                  tuple(chain(size) for size in (39, 38, 37, 36, 35, 34)),
                  (chain(1, "a", chain(38, "b")), chain(1, "a", chain(37, "b")), chain(36, "b"), chain(39, "b"),
                   chain(31, "b"), chain(29, "b")),
                  tuple(letters("".join(CHANCE.choice("ab") for _ in range(39))) for _ in range(6))]
        for stock in stocks:
            self.assert_soon(doubleroads.each_road_tells, stock)
            self.assert_soon(doubleroads.double_road, stock)

    def test_logs(self):
        for bush in BIG_BUSHES:
            half = (("year", wide(20)), ("rename", "w", "s"), ("mirror",), ("cut", 60))
            for log in ((("mirror",),) * 20, (("cut", 60),) * 20, (("rename", "w", "d"), ("rename", "d", "w")) * 10,
                        half * 5,
                        (("year", ()),) * 20, (("year", bush), *[("cut", 60), ("mirror",)] * 9, ("year", ())),
                        (("year", wide(400)), ("cut", 59), ("mirror",)) * 6):
                for function in (gardens.tended, gardens.tended_on, origins.spared_deeds):
                    self.assert_soon(function, bush, log)
                self.assert_soon(origins.origin_of, bush, log, (0,) * 59)
                self.assert_soon(logforms.log_form, log)
                self.assert_soon(logforms.are_like_logs, log, log[::-1])

    def test_gardeners(self):
        for bush in BIG_BUSHES:
            gardener = Gardener(bush)
            for _ in range(20):
                self.assert_soon(gardener.mirror)
            for function in (gardener.undo, gardener.redo, gardener.undo):
                self.assert_soon(function)
            self.assert_soon(gardener.attempt, lambda mine: mine.year(wide(400)))
