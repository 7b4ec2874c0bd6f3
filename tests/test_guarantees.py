"""[3]: the statements that hold for all bushes and growths, over many small ones."""

import fractions
import itertools
import unittest

from tests.samples import D, F, KINDS, LETTERS, S, W, bushes_with, plain_text, roads_of, small_bushes
from tests.test_gardens import logs_by_chance, plainly_tended
from tests.test_grafts import PIECES, plainly_grafted, rows_by_chance
from tests.test_heardroads import stocks_by_chance
from tests.test_mixedbushes import calls_by_chance, plainly_mixed
from tipwoods.bunches import left_overs, two_ways
from tipwoods.bushes import height_of, near_depth
from tipwoods.bushparts import count_unlike_parts
from tipwoods.bushturns import is_own_mirror, mirrored_bush, names_between, plain_bush, renamed_bush
from tipwoods.bushtexts import bush_text
from tipwoods.cuts import cut_above, cut_below, cuts_of
from tipwoods.depthbushes import can_have_depths
from tipwoods.doubleroads import double_road
from tipwoods.formcuts import alike_rows, cut_sizes, form_primes
from tipwoods.graftrows import can_swap, same_grafts
from tipwoods.grafts import grafted, lot_of, need_of
from tipwoods.graftwoods import first_root
from tipwoods.growing import bush_of, grown, grown_by
from tipwoods.heardroads import count_fitting, heard_of
from tipwoods.logforms import are_like_logs
from tipwoods.longcounts import unlike_parts
from tipwoods.longrows import long_alike, long_prime_at, long_primes
from tipwoods.mixedyears import first_unlike, lots_of_years
from tipwoods.powers import common_root, do_exchange, power_of
from tipwoods.primes import is_prime, primes_of
from tipwoods.roadsapart import depth_apart, letters_apart, word_apart
from tipwoods.rounds import led_over, round_bushes
from tipwoods.rowalikes import row_primes, rows_alike
from tipwoods.rowcounts import row_counts
from tipwoods.tops import is_top, lot_between
from tipwoods.turnings import own_mirror_row

FEW = small_bushes(1) + [("a", ("b", ()), ()), ("b", ("a", (), ("b", ()))), F, S, D]
MANY = small_bushes(2) + [F, S, W, D]
MORE = small_bushes(3)


class GrowingTest(unittest.TestCase):
    def test_two_growths_are_one(self):
        for bush in FEW:
            for first in FEW:
                for second in FEW:
                    if sum(map(len, (bush, first, second))) < 10:
                        behind = grown(grown(bush, first), second)
                        self.assertEqual(behind, grown(bush, grown(first, second)))
                        self.assertEqual(behind, grown_by(bush, (first, second)))
                        self.assertEqual(behind, bush_of((bush, first, second)))

    def test_near_depths_and_heights_are_added_up(self):
        for bush in MANY:
            for growth in MANY:
                found = grown(bush, growth)
                self.assertEqual(near_depth(found), near_depth(bush) + near_depth(growth))
                self.assertEqual(height_of(found), height_of(bush) + height_of(growth))
                self.assertEqual(row_counts((bush, growth))[2:], (near_depth(found), height_of(found)))

    def test_growing_keeps_apart(self):
        for growth in FEW:
            self.assertEqual(len({grown(bush, growth) for bush in MORE}), len(MORE))
        for bush in FEW:
            self.assertEqual(len({grown(bush, growth) for growth in MORE}), len(MORE))

    def test_mirrors_and_names_go_through_growing(self):
        names = "bca" + LETTERS[3:]
        for bush in MANY:
            for growth in MANY:
                found = grown(bush, growth)
                self.assertEqual(mirrored_bush(found), grown(mirrored_bush(bush), mirrored_bush(growth)))
                renamed = grown(renamed_bush(bush, names), renamed_bush(growth, names))
                self.assertEqual(renamed_bush(found, names), renamed)

    def test_own_mirrors_grow_own_mirrors_alone(self):
        for bush in MANY:
            for growth in MANY:
                expected = is_own_mirror(bush) and is_own_mirror(growth)
                self.assertEqual(is_own_mirror(bush_of((bush, growth))), expected)


class OrderAndNamesTest(unittest.TestCase):
    def test_bushes_stand_in_the_order_of_their_texts(self):
        bushes = MORE + [F, S, W, D, ("a", (), (), ()), ("a", (), (), ("a", ()))]
        self.assertEqual(sorted(bushes), sorted(bushes, key=plain_text))
        self.assertEqual(sorted(bushes), sorted(bushes, key=bush_text))
        self.assertEqual(len({bush_text(bush) for bush in bushes}), len(set(bushes)))

    def test_plain_bushes_tell_who_is_one_but_for_the_names(self):
        for bush in MANY:
            for other in MANY:
                self.assertEqual(names_between(bush, other) is not None, plain_bush(bush) == plain_bush(other))

    def test_names_between_make_the_one_the_other(self):
        for bush in bushes_with(3, KINDS):
            other = plain_bush(bush)
            self.assertEqual(plain_bush(other), other)
            pairs = dict(names_between(bush, other))
            self.assertEqual(sorted(pairs), sorted({part[0] for part in roads_of(bush).values() if part}))
            rest = [letter for letter in LETTERS if letter not in pairs.values()]
            names = "".join(pairs[letter] if letter in pairs else rest.pop() for letter in LETTERS)
            self.assertEqual(renamed_bush(bush, names), other)


class PrimesTest(unittest.TestCase):
    def test_each_bush_has_one_tuple_of_primes_alone(self):
        primes = [bush for bush in MANY if is_prime(bush)]
        rows = [()] + [(prime,) for prime in primes] + [(first, second) for first in primes for second in primes]
        found = {}
        for row in rows:
            bush = bush_of(row)
            self.assertEqual(primes_of(bush), row)
            self.assertEqual(found.setdefault(bush, row), row)

    def test_rows_are_alike_if_and_only_if_their_primes_are_one_tuple(self):
        rows = [(first, second) for first in FEW for second in FEW]
        rows += [(bush,) for bush in MANY] + [(S, S, S), (("s", ("s", S)),)]
        drawn = [bush_of(row) for row in rows]
        primes = [row_primes(row) for row in rows]
        for at, row in enumerate(rows):
            for mate in range(at, len(rows), 3):
                alike = drawn[at] == drawn[mate]
                self.assertEqual(primes[at] == primes[mate], alike)
                self.assertIs(rows_alike(row, rows[mate]), alike)

    def test_of_two_cuts_one_upper_bush_cuts_the_other_above(self):
        for bush in MORE + [grown(D, W), grown(W, grown(D, S)), grown(F, grown(F, W))]:
            cuts = cuts_of(bush)
            for upper, lower in cuts:
                self.assertEqual(grown(upper, lower), bush)
                self.assertEqual((cut_below(bush, lower), cut_above(bush, upper)), (upper, lower))
                for other, _ in cuts:
                    self.assertTrue(cut_above(upper, other) is not None or cut_above(other, upper) is not None)

    def test_long_rows_are_alike_if_and_only_if_all_their_primes_are(self):
        rows = [((first, 2), (second, 1)) for first in FEW[:9] for second in FEW[:9]]
        rows += [((bush, 1),) for bush in FEW] + [((bush, 3),) for bush in FEW[:9]]
        told = [[long_prime_at(row, index) for index in range(long_primes(row))] for row in rows]
        drawn = [bush_of(tuple(growth for growth, years in row for _ in range(years))) for row in rows]
        for at, row in enumerate(rows):
            for mate, beside in enumerate(rows):
                self.assertIs(long_alike(row, beside), told[at] == told[mate])
                self.assertEqual(told[at] == told[mate], drawn[at] == drawn[mate])


class PowersTest(unittest.TestCase):
    def test_bushes_exchange_if_and_only_if_both_are_powers_of_one(self):
        powers = {bush: [power_of(bush, times) for times in range(4)] for bush in small_bushes(1) + [F, S]}
        bushes = FEW + [bush for row in powers.values() for bush in row]
        for bush in bushes:
            for other in bushes:
                self.assertIs(do_exchange(bush, other), grown(bush, other) == grown(other, bush))
                self.assertIs(do_exchange(bush, other), common_root(bush, other) is not None)
        for row in powers.values():
            for bush in row:
                for other in row:
                    self.assertIs(do_exchange(bush, other), True)

    def test_led_over_if_and_only_if_round(self):
        bushes = [bush for bush in MANY if bush][::2] + [grown(F, S), grown(S, F), grown(W, S), grown(S, W)]
        for bush in bushes:
            rounds = round_bushes(bush)
            for other in bushes:
                self.assertEqual(led_over(bush, other, 3) != [], other in rounds)

    def test_bunches_of_two_are_tangled_if_and_only_if_they_exchange(self):
        bushes = [bush for bush in MANY if bush] + [power_of(F, 2), power_of(F, 3), power_of(S, 2), grown(W, W)]
        for at, bush in enumerate(bushes):
            for other in bushes[:at]:
                if bush != other:
                    tangled = two_ways((bush, other)) is not None
                    self.assertIs(tangled, do_exchange(bush, other))
                    self.assertIs(tangled, () in left_overs((bush, other)))

    def test_no_part_comes_by_two_years(self):
        for first in FEW:
            for second in FEW:
                row = ((first, 1), (second, 2))
                added = [count_unlike_parts(growth) - 1 for growth in (first, second, second)]
                self.assertEqual(unlike_parts(row), 1 + sum(added))
                self.assertEqual(unlike_parts(row), count_unlike_parts(bush_of((first, second, second))))


class OrderAndRoadsTest(unittest.TestCase):
    def test_rows_without_order_by_their_primes(self):
        rows = [(first, second) for first in FEW for second in FEW[::2]]
        for row in rows[::3]:
            for mate in rows[::5]:
                self.assertIs(alike_rows(row, mate), form_primes(row) == form_primes(mate))

    def test_cuts_without_order(self):
        for bush in MORE + [grown(D, W), grown(W, D), D]:
            cuts, forms = cut_sizes(bush)
            self.assertTrue(set(cuts) <= set(forms))

    def test_own_mirrors_of_rows(self):
        for first in FEW:
            for second in FEW:
                expected = is_own_mirror(first) and is_own_mirror(second)
                self.assertIs(own_mirror_row((first, second)), expected)

    def test_words_tell_more_than_letters_and_these_more_than_depths(self):
        rows = [(first, second) for first in FEW for second in FEW[::2]]
        for row in rows[::2]:
            self.assertIsNone(letters_apart(row, row[::-1]))
            for mate in rows[::3]:
                if bush_of(row) == bush_of(mate):
                    self.assertIsNone(word_apart(row, mate))
                if word_apart(row, mate) is None:
                    self.assertIsNone(letters_apart(row, mate))
                if letters_apart(row, mate) is None:
                    self.assertIsNone(depth_apart(row, mate))

    def test_counts_by_depths_by_the_sum_of_their_shares(self):
        for counts in itertools.product((0, 1, 5, 6, 7, 30, 36), repeat=3):
            if counts[-1]:
                share = sum(fractions.Fraction(many, 6 ** depth) for depth, many in enumerate(counts))
                self.assertIs(can_have_depths(counts), share <= 1)


class GraftsTest(unittest.TestCase):
    def test_rows_that_do_the_same(self):
        bushes = [("a", *[()] * 5), ("a", (), ("b", (), ())), ("a", (), ()), ("a", ("b", (), (), ()), (), ()), ()]
        rows = rows_by_chance(21, 70, 3, 3, PIECES[:4])
        for row in rows:
            for other in rows:
                alike = (need_of(row), lot_of(row)) == (need_of(other), lot_of(other))
                self.assertIs(same_grafts(row, other), alike)
                if alike:
                    self.assertEqual([grafted(bush, row) for bush in bushes], [grafted(bush, other) for bush in bushes])

    def test_grafts_exchange_by_their_numbers_tips_and_first_roots(self):
        bushes = small_bushes(2, (("a", 1), ("a", 2), ("b", 2)))
        for part in bushes:
            for mate in bushes:
                roots = () in (part, mate) or first_root(part)[0] == first_root(mate)[0]
                self.assertIs(can_swap(((1, part), (1, mate)), 0), roots)
                one_tip = row_counts((part,))[1] == 1
                self.assertIs(can_swap(((1, part), (2, mate)), 0), one_tip)
                self.assertIs(can_swap(((2, mate), (1, part)), 0), one_tip)

    def test_tops_are_what_grafts_start_from(self):
        for row in rows_by_chance(22, 300, 3, 3):
            for bush in FEW:
                found = plainly_grafted(bush, row)
                if found is not None:
                    self.assertIs(is_top(bush, found), True)
        for bush in FEW:
            for other in MANY:
                lot = lot_between(bush, other)
                self.assertIs(is_top(bush, other), lot is not None)
                if lot is not None:
                    self.assertEqual(plainly_grafted(bush, lot[::-1]), other)


class LivesTest(unittest.TestCase):
    def test_mixed_bushes_equal_in_all_years(self):
        calls = [(sorts, mixed, row[0], row[-1]) for sorts, mixed, row in calls_by_chance(23, 900) if row]
        told = set()
        for sorts, mixed, change, second in calls:
            comes = {sort for lot in lots_of_years(sorts, mixed, change)[0] for sort in lot}
            equal = all(change[sort] == second[sort] for sort in comes)
            told.add(equal)
            self.assertIs(first_unlike(sorts, mixed, change, mixed, second) is None, equal)
            if equal:
                self.assertEqual(plainly_mixed(mixed, (change,) * 3), plainly_mixed(mixed, (second,) * 3))
        self.assertEqual(told, {True, False})

    def test_heard_roads_are_fitted_once_if_there_is_no_double_road(self):
        for stock in stocks_by_chance(24, 60, 2):
            rows = [tuple(stock[index] for index in row) for many in range(4)
                    for row in itertools.product(range(len(stock)), repeat=many)]
            most = max(count_fitting(stock, heard) for row in rows for heard in heard_of(bush_of(row)))
            double = double_road(stock)
            if double is None:
                self.assertEqual(most, 1)
            elif len(double) <= 3:
                self.assertGreater(most, 1)

    def test_logs_that_do_the_same(self):
        logs = logs_by_chance(25, 60, 3)
        bushes = MANY[::4] + [W, D, ("f", ("f", ("s", F, ()), ()), S)]
        for log in logs:
            for other in logs:
                if are_like_logs(log, other):
                    for bush in bushes:
                        self.assertEqual(plainly_tended(bush, log), plainly_tended(bush, other))
