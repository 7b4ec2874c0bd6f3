"""[2]: which error is raised for which argument, and in which order; what is handed in and returned."""

import unittest

from tests.samples import (
    D, F, LETTERS, NO_BUNCHES, NO_BUSHES, NO_CHANGES, NO_COUNTS, NO_GRAFTS, NO_HEARDS, NO_LOGS, NO_LONG_ROWS, NO_MIXED,
    NO_NAMES, NO_ROADS, NO_ROWS, NO_STOCKS, NO_STORES, NO_WORDS, ODD_VALUES, S, W, chain, doubled, no_numbers,
    plainly_grown, raised_by, wide,
)
from tipwoods import (
    bunches, bunchways, bushes, bushnumbers, bushparts, bushtexts, bushturns, cuts, depthbushes, depthcuts, doubleroads,
    formcuts, forms, gardens, graftrows, grafts, graftwoods, growing, heardroads, lastyears, logforms, longcounts,
    longroads, longrows, longtips, mixedalike, mixedbushes, mixedyears, origins, powers, primecounts, primes, roads,
    roadsapart, roadwords, rounds, rowalikes, rowcounts, sharedyears, tipclasses, tops, turnedcopies, turnings,
    wordbushes,
)
from tipwoods.errors import (
    InvalidBunch, InvalidBush, InvalidCounts, InvalidGrafts, InvalidGrowths, InvalidHeard, InvalidLog, InvalidLongRow,
    InvalidMixed, InvalidMixedRow, InvalidNames, InvalidNumber, InvalidRoad, InvalidRuns, InvalidStock, InvalidStore,
    InvalidText, InvalidWords, NoKnot, TooMany,
)

N = 10 ** 30

# A kind of argument: a value that is right, values that are wrong, and their error.
BUSH = (F, NO_BUSHES + ODD_VALUES, InvalidBush)
ROW = ((S, F), NO_ROWS + [(value,) for value in NO_BUSHES] + ODD_VALUES, InvalidGrowths)
ROAD = ((1,), NO_ROADS + ODD_VALUES, InvalidRoad)
NAMES = (LETTERS, [names for names in NO_NAMES if names != LETTERS[1:] + "a"] + ODD_VALUES, InvalidNames)
NO_TEXTS = [(), F, "f(..", "f(..))", "F(..)", "f(..) ", ". . f"]
TEXT = ("f(..)", NO_TEXTS + [value for value in ODD_VALUES if value != "f(..)"], InvalidText)
STORE = ((("f", 2), ("s", 1)), NO_STORES + ODD_VALUES, InvalidStore)
LONG = (((F, 10 ** 30), (S, 1)), NO_LONG_ROWS + ODD_VALUES, InvalidLongRow)
YEAR = (((F, 1), ((), N)), NO_LONG_ROWS + ODD_VALUES, InvalidLongRow)
NO_RUNS = [(), [((1,), 1)], ((1,), 1), (((1,), 2),), (((1,), 0),), (((1,), True),), (((True,), 1),), (((2,), 1),),
           (((), 1),), (((1,), 1), ((), 1)), (((1,), 1), ((1,), 1)), ([(1,), 1],), (((1,), 1, 1),), (((1,), None),)]
RUNS = ((((1,), 1),), NO_RUNS + ODD_VALUES, InvalidRuns)
BUNCH = ((F, S), NO_BUNCHES + ODD_VALUES, InvalidBunch)
COUNTS = ((0, 0, 2), NO_COUNTS + ODD_VALUES, InvalidCounts)
WORDS = ((("ab", 2), ("b", 10 ** 18)), NO_WORDS + ODD_VALUES, InvalidWords)
GRAFTS = (((1, F), (1, S)), NO_GRAFTS + ODD_VALUES, InvalidGrafts)
MIXED = (("f", 0, 1), NO_MIXED + ODD_VALUES, InvalidMixed)
CHANGE = ((("f", 0, 1), 0), NO_CHANGES + ODD_VALUES, InvalidMixedRow)
NO_CHANGE_ROWS = [(wrong,) for wrong in NO_CHANGES] + [((0, 1), wrong) for wrong in NO_CHANGES] + [
    None, 0, "", [], [(0, 1)], (0, 1), ((0, 1),) * 13, F, (("f", 0, 1), 0),
]
CHANGES = (((("f", 0, 1), 0),), NO_CHANGE_ROWS + ODD_VALUES, InvalidMixedRow)
STOCK = ((F, S, ("f", S, ())), NO_STOCKS + ODD_VALUES, InvalidStock)
HEARD = ((("f", 0), ("s", 0)), NO_HEARDS + ODD_VALUES, InvalidHeard)
NO_STOCK_ROWS = [None, 0, "", [], [0], (3,), (-1,), (True,), (False,), ("0",), (None,), ((0,),), (0, 3), (0, None),
                 (0,) * 61, F, (10 ** 119,), (0, 1, -1)]
STOCK_ROW = ((0, 1), NO_STOCK_ROWS + ODD_VALUES, InvalidGrowths)
NO_HEARD_ROWS = [(wrong,) for wrong in NO_HEARDS] + [(HEARD[0], wrong) for wrong in NO_HEARDS] + [
    None, 0, "", (), [], [HEARD[0]], HEARD[0], (HEARD[0],) * 7, ((),) * 7, F,
]
HEARDS = ((HEARD[0], (("f", 1),)), NO_HEARD_ROWS + ODD_VALUES, InvalidHeard)
LOG = ((("year", F), ("mirror",), ("rename", "f", "g"), ("cut", 3)), NO_LOGS + ODD_VALUES, InvalidLog)


def number(good, least, greatest):
    return (good, no_numbers(least, greatest) + [value for value in ODD_VALUES if value is not None], InvalidNumber)


SORTS = number(2, 1, 4)
FUNCTIONS = [
    (bushes.knots_of, [BUSH]),
    (bushes.tips_of, [BUSH]),
    (bushes.near_depth, [BUSH]),
    (bushes.height_of, [BUSH]),
    (bushes.widths_of, [BUSH]),
    (roads.part_at, [BUSH, ROAD]),
    (roads.tip_roads, [BUSH]),
    (roads.tip_road, [BUSH, number(1, 0, 1)]),
    (roads.tip_number, [BUSH, ROAD]),
    (roads.unlike_road, [BUSH, BUSH]),
    (growing.grown, [BUSH, BUSH]),
    (growing.grown_by, [BUSH, ROW]),
    (growing.grown_on, [BUSH, ROW]),
    (growing.bush_of, [ROW]),
    (rowcounts.row_counts, [ROW]),
    (rowcounts.can_be_drawn, [ROW]),
    (bushparts.letter_counts, [BUSH]),
    (bushparts.standing_roads, [BUSH, BUSH]),
    (bushparts.count_standing, [BUSH, BUSH]),
    (bushparts.count_unlike_parts, [BUSH]),
    (bushparts.greatest_twin, [BUSH]),
    (bushturns.mirrored_bush, [BUSH]),
    (bushturns.mirrored_road, [BUSH, ROAD]),
    (bushturns.is_own_mirror, [BUSH]),
    (bushturns.renamed_bush, [BUSH, NAMES]),
    (bushturns.plain_bush, [BUSH]),
    (bushturns.names_between, [BUSH, BUSH]),
    (bushtexts.bush_text, [BUSH]),
    (bushtexts.row_text, [ROW]),
    (bushtexts.read_bush, [TEXT]),
    (bushtexts.read_row, [TEXT]),
    (bushnumbers.count_bushes, [number(3, 0, 20), number(2, 1, 26), number(2, 1, 6)]),
    (bushnumbers.bush_at, [number(3, 0, 20), number(2, 1, 26), number(2, 1, 6), number(5, 0, 175)]),
    (bushnumbers.bush_index, [BUSH, number(6, 1, 26), number(2, 1, 6)]),
    (cuts.cut_below, [BUSH, BUSH]),
    (cuts.cut_above, [BUSH, BUSH]),
    (cuts.cuts_of, [BUSH]),
    (primes.is_prime, [BUSH]),
    (primes.primes_of, [BUSH]),
    (primes.first_prime, [BUSH]),
    (primes.last_prime, [BUSH]),
    (rowalikes.row_primes, [ROW]),
    (rowalikes.rows_alike, [ROW, ROW]),
    (rowalikes.parting_prime, [ROW, ROW]),
    (primecounts.bushes_counted, [STORE, number(3, 0, 16), number(2, 1, 100)]),
    (primecounts.primes_counted, [STORE, number(3, 0, 16), number(2, 1, 100)]),
    (primecounts.prime_list, [STORE, number(3, 0, 16)]),
    (lastyears.last_times, [BUSH, BUSH]),
    (lastyears.regrown, [BUSH, BUSH, BUSH]),
    (longrows.long_alike, [LONG, LONG]),
    (longrows.long_parting, [LONG, LONG]),
    (longrows.long_primes, [LONG]),
    (longrows.long_prime_at, [LONG, number(3, 0, 10 ** 30)]),
    (longcounts.long_depths, [LONG]),
    (longcounts.tips_modulo, [LONG, number(7, 1, 10 ** 9)]),
    (longcounts.knots_modulo, [LONG, number(7, 1, 10 ** 9)]),
    (longcounts.tips_whole, [YEAR]),
    (longcounts.unlike_parts, [LONG]),
    (longtips.runs_of_tip, [YEAR, number(1, 0, 1)]),
    (longtips.tip_of_runs, [YEAR, RUNS]),
    (longtips.near_runs, [LONG]),
    (longtips.far_runs, [LONG]),
    (longroads.spot_at, [YEAR, ROAD]),
    (longroads.unlike_way, [LONG, LONG]),
    (powers.do_exchange, [BUSH, BUSH]),
    (powers.root_of, [BUSH]),
    (powers.power_of, [BUSH, number(3, 0, 60)]),
    (powers.common_root, [BUSH, BUSH]),
    (rounds.round_bushes, [BUSH]),
    (rounds.round_index, [BUSH, BUSH]),
    (rounds.led_over, [BUSH, BUSH, number(3, 0, 60)]),
    (sharedyears.shared_first, [BUSH, BUSH]),
    (sharedyears.shared_last, [BUSH, BUSH]),
    (sharedyears.put_between, [BUSH, BUSH, BUSH]),
    (bunches.left_overs, [BUNCH]),
    (bunches.two_ways, [BUNCH]),
    (bunches.base_of, [BUNCH]),
    (bunchways.count_ways, [BUNCH, BUSH]),
    (bunchways.least_way, [BUNCH, BUSH]),
    (forms.form_of, [BUSH]),
    (forms.alike_without_order, [BUSH, BUSH]),
    (forms.unlike_form, [BUSH, BUSH]),
    (formcuts.cut_sizes, [BUSH]),
    (formcuts.form_cut, [BUSH, number(2, 1, 400)]),
    (formcuts.form_primes, [ROW]),
    (formcuts.alike_rows, [ROW, ROW]),
    (turnedcopies.count_copies, [BUSH]),
    (turnedcopies.all_copies, [BUSH]),
    (turnedcopies.copy_number, [BUSH]),
    (turnedcopies.row_copies, [ROW, number(7, 2, 10 ** 9)]),
    (tipclasses.tip_classes, [BUSH]),
    (tipclasses.class_sizes, [ROW]),
    (turnings.own_mirror_row, [ROW]),
    (turnings.fewest_turns, [BUSH, BUSH]),
    (roadwords.words_of, [ROW]),
    (roadwords.road_letters_of, [ROW]),
    (roadwords.depths_of, [ROW]),
    (roadsapart.word_apart, [ROW, ROW]),
    (roadsapart.letters_apart, [ROW, ROW]),
    (roadsapart.depth_apart, [ROW, ROW]),
    (depthbushes.can_have_depths, [COUNTS]),
    (depthbushes.fewest_by_depths, [COUNTS]),
    (depthbushes.bush_by_depths, [COUNTS]),
    (wordbushes.can_have_words, [WORDS]),
    (wordbushes.fewest_by_words, [WORDS]),
    (wordbushes.bush_by_words, [WORDS]),
    (depthcuts.cut_by_depths, [COUNTS, COUNTS]),
    (depthcuts.depth_root, [COUNTS, number(2, 1, 12)]),
    (depthcuts.tips_after, [BUSH, number(7, 0, 2000), number(1, 0, 60)]),
    (grafts.grafted, [BUSH, GRAFTS]),
    (grafts.need_of, [GRAFTS]),
    (grafts.lot_of, [GRAFTS]),
    (graftrows.same_grafts, [GRAFTS, GRAFTS]),
    (graftrows.apart_bush, [GRAFTS, GRAFTS]),
    (graftrows.can_swap, [GRAFTS, number(0, 0, 0)]),
    (graftrows.led_past, [GRAFTS, number(0, 0, 0)]),
    (graftwoods.wood_of, [GRAFTS]),
    (graftwoods.count_led, [GRAFTS]),
    (graftwoods.are_led, [GRAFTS, GRAFTS]),
    (graftwoods.first_root, [BUSH]),
    (tops.count_knot_rows, [BUSH]),
    (tops.is_top, [BUSH, BUSH]),
    (tops.lot_between, [BUSH, BUSH]),
    (tops.count_tops, [BUSH]),
    (tops.common_top, [BUSH, BUSH]),
    (tops.joined_tops, [BUSH, BUSH]),
    (tops.clash_road, [BUSH, BUSH]),
    (mixedbushes.mixed_grown, [SORTS, MIXED, CHANGES]),
    (mixedbushes.mixed_tips, [SORTS, MIXED, CHANGES]),
    (mixedbushes.mixed_tip, [SORTS, MIXED, CHANGES, number(2, 0, 2)]),
    (mixedalike.grow_alike, [SORTS, MIXED, CHANGES, MIXED, CHANGES]),
    (mixedalike.mixed_unlike, [SORTS, MIXED, CHANGES, MIXED, CHANGES]),
    (mixedyears.lots_of_years, [SORTS, MIXED, CHANGE]),
    (mixedyears.first_unlike, [SORTS, MIXED, CHANGE, MIXED, CHANGE]),
    (mixedyears.tips_in_year, [SORTS, MIXED, CHANGE, number(7, 0, 10 ** 30), number(7, 1, 10 ** 9)]),
    (mixedyears.undoing_change, [SORTS, CHANGE]),
    (heardroads.heard_of, [BUSH]),
    (heardroads.row_fits, [STOCK, STOCK_ROW, HEARD]),
    (heardroads.first_fitting, [STOCK, HEARD]),
    (heardroads.count_fitting, [STOCK, HEARD]),
    (heardroads.heard_so_far, [STOCK, HEARD]),
    (heardroads.rows_fitting, [STOCK, HEARDS]),
    (doubleroads.each_road_tells, [STOCK]),
    (doubleroads.double_road, [STOCK]),
    (gardens.tended, [BUSH, LOG]),
    (gardens.tended_on, [BUSH, LOG]),
    (logforms.log_form, [LOG]),
    (logforms.are_like_logs, [LOG, LOG]),
    (origins.origin_of, [BUSH, LOG, ROAD]),
    (origins.spared_deeds, [BUSH, LOG]),
]

# Functions whose last argument may be any value.
VALUE = (F, [], None)
TESTS = [
    (bushes.is_bush, [VALUE]),
    (bushes.are_growths, [VALUE]),
    (cuts.is_cut, [BUSH, VALUE]),
    (longrows.is_long_row, [VALUE]),
    (bunches.is_bunch, [VALUE]),
]

# A growth with many words, and letters, and many classes of tips of unlike sizes.
MANY = ("a", *[(letter, *[()] * (at + 1)) for at, letter in enumerate("bcdefg")])

# Calls with arguments that are right but for what is told at last, and wrong ones in their places.
LATE = [
    (growing.grown, (wide(400), F), TooMany),
    (growing.grown, (chain(60), S), TooMany),
    (growing.grown_by, (wide(400), (F,) * 12), TooMany),
    (growing.grown_by, (chain(60), (S,) * 12), TooMany),
    (growing.grown_on, (wide(400), (F,) * 12), TooMany),
    (growing.bush_of, ((F,) * 12,), TooMany),
    (primecounts.prime_list, ((("f", 2), ("s", 1)), 16), TooMany),
    (lastyears.last_times, (F, ()), NoKnot),
    (lastyears.last_times, ((), ()), NoKnot),
    (lastyears.regrown, (W, S, wide(400)), TooMany),
    (lastyears.regrown, (chain(60), S, chain(2)), TooMany),
    (longcounts.tips_whole, (((F, N), (S, N)),), TooMany),
    (longtips.tip_of_runs, (((F, N), (S, N)), (((1,), N), ((0,), N))), TooMany),
    (longroads.unlike_way, (((F, N),), ((F, N - 1), (S, 1))), TooMany),
    (powers.power_of, (F, 60), TooMany),
    (powers.power_of, (chain(2), 31), TooMany),
    (rounds.round_bushes, (plainly_grown(chain(30), doubled(7)),), TooMany),
    (rounds.led_over, (F, (), 3), NoKnot),
    (rounds.led_over, ((), F, 3), NoKnot),
    (rounds.led_over, ((), (), 3), NoKnot),
    (turnedcopies.all_copies, (("x", *[(letter, ()) for letter in "abcdef"]),), TooMany),
    (tipclasses.class_sizes, ((MANY,) * 12,), TooMany),
    (roadwords.words_of, ((MANY,) * 12,), TooMany),
    (roadwords.road_letters_of, ((MANY,) * 12,), TooMany),
    (roadsapart.word_apart, ((MANY,) * 12, ()), TooMany),
    (roadsapart.word_apart, ((), (MANY,) * 12), TooMany),
    (roadsapart.letters_apart, ((MANY,) * 12, ()), TooMany),
    (roadsapart.letters_apart, ((), (MANY,) * 12), TooMany),
    (depthbushes.bush_by_depths, ((0,) * 60 + (10 ** 18,),), TooMany),
    (wordbushes.bush_by_words, ((("ab" * 30, 10 ** 18),),), TooMany),
    (mixedbushes.mixed_grown, (2, ("f", 0, 1), ((("f", 0, 0), 1),) * 12), TooMany),
    (mixedbushes.mixed_grown, (2, chain(60, "s", 1), ((0, ("f", 1)),)), TooMany),
    (heardroads.rows_fitting, ((S, S, ("s", S)), ((("s", 0),) * 60,)), TooMany),
    (gardens.tended, (wide(400), (("year", F), ("cut", 0))), TooMany),
    (gardens.tended_on, (chain(60), (("mirror",), ("year", S), ("cut", 0))), TooMany),
    (logforms.log_form, ((("year", wide(400)), ("year", F), ("cut", 0)),), TooMany),
    (logforms.are_like_logs, ((("year", wide(400)), ("year", F)), ()), TooMany),
    (logforms.are_like_logs, ((), (("year", chain(60)), ("year", S))), TooMany),
    (origins.spared_deeds, (chain(60), (("cut", 59), ("year", S))), TooMany),
]

# Calls that return lists.
LISTS = [
    (roads.tip_roads, (W,)),
    (growing.grown_on, (F, (S, F))),
    (growing.grown_on, (F, ())),
    (bushparts.standing_roads, (W, S)),
    (bushparts.standing_roads, (S, W)),
    (cuts.cuts_of, (W,)),
    (cuts.cuts_of, ((),)),
    (primecounts.prime_list, ((("f", 2), ("s", 1)), 3)),
    (primecounts.prime_list, ((("f", 2),), 0)),
    (rounds.round_bushes, (W,)),
    (rounds.round_bushes, ((),)),
    (rounds.led_over, (F, F, 3)),
    (rounds.led_over, (F, S, 3)),
    (bunches.left_overs, ((F, ("f", F, F)),)),
    (bunches.left_overs, ((F, S),)),
    (turnedcopies.all_copies, (D,)),
    (turnedcopies.all_copies, ((),)),
    (tipclasses.tip_classes, (D,)),
    (heardroads.heard_of, (W,)),
    (heardroads.heard_of, ((),)),
    (heardroads.rows_fitting, ((F, S), ((("f", 0),),))),
    (heardroads.rows_fitting, ((F, S), ((("a", 0),),))),
    (heardroads.rows_fitting, ((F, S), ((),))),
    (gardens.tended_on, (F, (("mirror",), ("year", S)))),
    (gardens.tended_on, (F, ())),
    (origins.spared_deeds, (F, (("mirror",), ("year", S)))),
    (origins.spared_deeds, (F, ())),
]


def with_wrong(goods, wrongs):
    """The goods, with the values of the dict of wrong ones at their places."""
    return [wrongs.get(at, good) for at, good in enumerate(goods)]


class ArgumentsTest(unittest.TestCase):
    def assert_raises_just(self, error, function, arguments):
        found = raised_by(function, *arguments)
        self.assertIs(type(found), error, (function.__name__, [type(argument) for argument in arguments]))

    def test_right_arguments(self):
        for function, kinds in FUNCTIONS:
            self.assertIsNone(raised_by(function, *[kind[0] for kind in kinds]), function.__name__)

    def test_each_wrong_value_of_each_argument(self):
        for function, kinds in FUNCTIONS:
            goods = [kind[0] for kind in kinds]
            for at, (_, wrongs, error) in enumerate(kinds):
                for wrong in wrongs:
                    self.assert_raises_just(error, function, with_wrong(goods, {at: wrong}))

    def test_the_first_of_several_wrong_arguments(self):
        for function, kinds in FUNCTIONS:
            goods = [kind[0] for kind in kinds]
            for late in range(len(kinds)):
                for early in range(late):
                    for first in kinds[early][1][:12]:
                        for second in kinds[late][1][:12]:
                            arguments = with_wrong(goods, {early: first, late: second})
                            self.assert_raises_just(kinds[early][2], function, arguments)

    def test_all_arguments_wrong(self):
        for function, kinds in FUNCTIONS:
            for value in ([], None, "x", True, ("f",)):
                self.assert_raises_just(kinds[0][2], function, [value] * len(kinds))

    def test_late_errors_come_behind_all_others(self):
        table = dict(FUNCTIONS)
        for function, goods, error in LATE:
            self.assert_raises_just(error, function, goods)
            for at, (_, wrongs, wrong_error) in enumerate(table[function]):
                for wrong in wrongs:
                    self.assert_raises_just(wrong_error, function, with_wrong(goods, {at: wrong}))

    def test_any_value_can_be_told(self):
        for function, kinds in TESTS:
            goods = [kind[0] for kind in kinds[:-1]]
            for value in ODD_VALUES + NO_BUSHES + NO_ROWS[2:] + NO_STORES + NO_NAMES + NO_ROADS:
                if value not in ((), F, S, ((),), ((), ())):
                    self.assertIs(function(*goods, value), False, function.__name__)
        for wrong in BUSH[1]:
            self.assert_raises_just(InvalidBush, cuts.is_cut, (wrong, wrong))
        for wrong in SORTS[1]:
            self.assert_raises_just(InvalidNumber, mixedbushes.is_mixed, (wrong, wrong))
            self.assert_raises_just(InvalidNumber, mixedbushes.are_changes, (wrong, ()))

    def test_each_function_that_tells_values_apart(self):
        for function, wrongs in ((grafts.is_graft_row, GRAFTS[1]), (heardroads.is_heard, HEARD[1]),
                                 (heardroads.is_stock, STOCK[1]), (gardens.is_log, LOG[1])):
            for wrong in wrongs:
                self.assertIs(function(wrong), False, function.__name__)
        for function, wrongs in ((mixedbushes.is_mixed, MIXED[1]), (mixedbushes.are_changes, CHANGES[1])):
            for wrong in wrongs:
                self.assertIs(function(2, wrong), False, function.__name__)
        for function, good in ((grafts.is_graft_row, GRAFTS[0]), (heardroads.is_heard, HEARD[0]),
                               (heardroads.is_stock, STOCK[0]), (gardens.is_log, LOG[0])):
            self.assertIs(function(good), True, function.__name__)
        self.assertIs(mixedbushes.is_mixed(2, MIXED[0]), True)
        self.assertIs(mixedbushes.are_changes(2, CHANGES[0]), True)

    def test_an_error_that_comes_behind_too_many(self):
        late = (wide(400), (("year", F), ("cut", 0)))
        for road in ROAD[1]:
            self.assert_raises_just(TooMany, origins.origin_of, (*late, road))
            self.assert_raises_just(InvalidRoad, origins.origin_of, (F, (), road))
        for wrong in LOG[1]:
            self.assert_raises_just(InvalidLog, origins.origin_of, (wide(400), wrong, None))
        for wrong in BUSH[1]:
            self.assert_raises_just(InvalidBush, origins.origin_of, (wrong, late[1], None))

    def test_what_is_wrong_behind_an_answer_that_would_be_none(self):
        self.assert_raises_just(InvalidBush, lastyears.regrown, (F, S, ("f",)))
        self.assert_raises_just(InvalidNumber, bushnumbers.bush_index, (chain(60), 1, 7))
        self.assert_raises_just(InvalidNumber, bushnumbers.bush_index, (chain(60), 0, 7))
        self.assert_raises_just(InvalidNumber, primecounts.bushes_counted, ((("f", 2),), 0, 101))
        self.assert_raises_just(InvalidNumber, primecounts.primes_counted, ((("f", 2),), 17, 1))
        self.assert_raises_just(InvalidBush, sharedyears.put_between, (F, S, ("f",)))
        self.assert_raises_just(InvalidLongRow, longroads.unlike_way, ((), ((F, -1),)))
        self.assert_raises_just(InvalidNumber, rounds.led_over, (F, S, 61))
        self.assert_raises_just(InvalidNumber, formcuts.form_cut, ((), 401))
        self.assert_raises_just(InvalidGrowths, formcuts.alike_rows, ((F,), (F, None)))
        self.assert_raises_just(InvalidBush, forms.unlike_form, (F, ("f",)))
        self.assert_raises_just(InvalidBush, turnings.fewest_turns, ((), ("f",)))
        self.assert_raises_just(InvalidNumber, turnedcopies.row_copies, ((), 1))
        self.assert_raises_just(InvalidCounts, depthcuts.cut_by_depths, ((1,), (0,)))
        self.assert_raises_just(InvalidNumber, depthcuts.depth_root, ((0, 2), 13))
        self.assert_raises_just(InvalidGrafts, graftrows.same_grafts, (((4, ()),), ((101, ()),)))
        self.assert_raises_just(InvalidGrafts, graftwoods.are_led, ((), ((101, ()),)))
        self.assert_raises_just(InvalidBush, tops.lot_between, (F, ("f", F)[:1]))
        self.assert_raises_just(InvalidMixedRow, mixedalike.grow_alike, (1, 0, (), ("s", 0), ((1,),)))
        self.assert_raises_just(InvalidMixedRow, mixedyears.first_unlike, (1, 0, (0,), ("s", 0), (1,)))
        self.assert_raises_just(InvalidMixed, mixedyears.first_unlike, (1, 0, (0,), 1, (1,)))
        self.assert_raises_just(InvalidHeard, heardroads.rows_fitting, ((F,), ((("a", 0),), (("a", 6),))))
        self.assert_raises_just(InvalidHeard, heardroads.row_fits, ((F,), (0,) * 60, (("f", 6),)))
        self.assert_raises_just(InvalidLog, logforms.are_like_logs, ((), (("cut", 61),)))
        self.assert_raises_just(InvalidLog, origins.spared_deeds, ((), (("year", ("f",)),)))

    def test_arguments_are_passed_by_position_and_all_of_them(self):
        for function, kinds in FUNCTIONS:
            goods = [kind[0] for kind in kinds]
            self.assertRaises(TypeError, function, *goods[1:])
            self.assertRaises(TypeError, function, *goods, goods[0])

    def test_returned_lists_are_new(self):
        for function, arguments in LISTS:
            found = function(*arguments)
            self.assertIs(type(found), list, function.__name__)
            kept = list(found)
            found.append("mine")
            found.reverse()
            self.assertEqual(function(*arguments), kept, function.__name__)

    def test_results_are_plain_values(self):
        def assert_plain(value):
            self.assertIn(type(value), (tuple, list, str, int, bool, type(None)))
            if isinstance(value, (tuple, list)):
                for item in value:
                    assert_plain(item)
        for function, kinds in FUNCTIONS:
            assert_plain(function(*[kind[0] for kind in kinds]))

    def test_true_and_false_are_no_integers(self):
        self.assert_raises_just(InvalidNumber, roads.tip_road, (F, True))
        self.assert_raises_just(InvalidNumber, roads.tip_road, (F, False))
        self.assert_raises_just(InvalidRoad, roads.part_at, (F, (True,)))
        self.assert_raises_just(InvalidRoad, roads.tip_number, (F, (False,)))
        self.assert_raises_just(InvalidRoad, bushturns.mirrored_road, (D, (0, True)))

    def test_values_with_ever_so_many_parts_are_told_at_once(self):
        great = doubled(100)
        for function, kinds in FUNCTIONS:
            goods = [kind[0] for kind in kinds]
            for at, kind in enumerate(kinds):
                if kind is BUSH:
                    self.assert_raises_just(InvalidBush, function, with_wrong(goods, {at: great}))
                if kind is ROW:
                    self.assert_raises_just(InvalidGrowths, function, with_wrong(goods, {at: (S, great)}))
                if kind is BUNCH:
                    self.assert_raises_just(InvalidBunch, function, with_wrong(goods, {at: (S, great)}))
                if kind is GRAFTS:
                    self.assert_raises_just(InvalidGrafts, function, with_wrong(goods, {at: ((0, S), (0, great))}))
                if kind is STOCK:
                    self.assert_raises_just(InvalidStock, function, with_wrong(goods, {at: (S, great)}))
                if kind is LOG:
                    self.assert_raises_just(InvalidLog, function, with_wrong(goods, {at: (("year", great),)}))
                if kind is MIXED:
                    self.assert_raises_just(InvalidMixed, function, with_wrong(goods, {at: great}))
                if kind is CHANGE:
                    self.assert_raises_just(InvalidMixedRow, function, with_wrong(goods, {at: (0, great)}))
                if kind is CHANGES:
                    self.assert_raises_just(InvalidMixedRow, function, with_wrong(goods, {at: ((great, 0),)}))
                if kind in (LONG, YEAR):
                    self.assert_raises_just(InvalidLongRow, function, with_wrong(goods, {at: ((S, 1), (great, 1))}))
