"""Promise 20: zeros of rows of small numbers, and numbers made."""

import itertools
import math
import unittest
from fractions import Fraction

from everyplace.errors import NoRow, TooGreat
from everyplace.meets import class_of_product, number_among, samples_at
from everyplace.places import class_at
from everyplace.rows import first_without, makes_at
from everyplace.three import zero_of_three, zero_of_two
from everyplace.wished import number_with
from everyplace.zeros import values_for, zero_of
from kept import check_nothing_changed_or_kept
from norows import NO_ROWS
from samples import Source, is_fraction, known
from search import BELOW_15, BELOW_30, free_by_trying, made_of
from smalls import GREAT, PLACES, SMALL_FREE, all_but_one, has_zero, numbers_of, small_rows, with_great_square

NOT_SMALL = (17, -17, 34, 19 * 4, BELOW_15, BELOW_30, -BELOW_30, 2 * 1009, 30030 * 17, 30030 * 8101)


def check_zero(case, row, zero):
    case.assertIs(type(zero), list, row)
    case.assertEqual(len(zero), len(row))
    case.assertTrue(all(type(x) is int for x in zero), row)
    case.assertEqual(math.gcd(*zero), 1, row)
    case.assertEqual(made_of(row, zero), 0, row)


class Zeros(unittest.TestCase):
    def check(self, row, wanted):
        zero = zero_of(row)
        if wanted:
            check_zero(self, row, zero)
        else:
            self.assertIsNone(zero, row)

    def test_by_hand(self):
        self.assertIsNone(zero_of([1, 1, 1, -7]))
        self.assertIsNone(zero_of([1, 1, 1, 1]))
        self.assertIsNone(zero_of([1, 1, -3, -3]))
        for row in ([1, -1], [1, 1, -2], [1, 1, 1, -1], [1, 1, 1, 1, -7], [1, 1, 1, -7, -7], [3, -3, 5, 7],
                    [1, 2, -3, -6], [1, 1, -1, -1], [1, -1, 1, -1, 1, -1, 1, -1]):
            check_zero(self, row, zero_of(row))

    def test_rows_of_one(self):
        for k in SMALL_FREE + [4, -49, 2 ** 29, with_great_square(-6)]:
            self.assertIsNone(zero_of([k]))

    def test_rows_of_two(self):
        for a, b in itertools.product(SMALL_FREE[:40], repeat=2):
            self.check([a, b], a == -b)
            self.check([a, 4 * b], a == -b)
            self.check([9 * a, 49 * b], a == -b)

    def test_rows_of_three(self):
        for row in itertools.combinations_with_replacement(numbers_of((2, 3))[:12] + [5, -7, 13], 3):
            self.check(list(row), has_zero(row))
        for row in small_rows(Source(901), 150, 3):
            self.check(row, has_zero(row))

    def test_rows_of_four_of_few_primes(self):
        for numbers in (numbers_of((2,)) + [3, -5], numbers_of((3,)) + [2, 7], [1, -1, 13, -13, 11, 2, -26]):
            for row in itertools.combinations_with_replacement(numbers, 4):
                self.check(list(row), has_zero(row))

    def test_rows_of_four(self):
        source = Source(902)
        told = 0
        for row in small_rows(source, 150, 4) + [all_but_one(source, row) for row in small_rows(source, 100, 4)]:
            wanted = has_zero(row)
            self.check(row, wanted)
            told += wanted
        self.assertTrue(100 < told < 230)

    def test_rows_of_four_whose_product_is_a_square(self):
        """Just these can lack a zero at a prime."""
        source = Source(903)
        seen = {True: 0, False: 0}
        for a, b, c in small_rows(source, 120, 3) + small_rows(source, 200, 3, numbers_of((2, 3, 5))):
            row = [a, b, c, free_by_trying(a * b * c)]
            wanted = has_zero(row)
            self.check(row, wanted)
            seen[wanted] += min(row) < 0 < max(row)
        self.assertTrue(min(seen.values()) > 30)

    def test_five_and_more(self):
        source = Source(904)
        for length in (5, 6, 7, 8):
            for row in small_rows(source, 60, length):
                self.check(row, min(row) < 0 < max(row))
                self.check([abs(k) for k in row], False)
                self.check([-abs(k) for k in row], False)

    def test_five_and_more_with_all_but_one_of_one_sign(self):
        source = Source(905)
        for length in (5, 6, 7, 8):
            for row in small_rows(source, 150 if length == 5 else 60, length):
                self.check(all_but_one(source, row), True)
            for place in range(length):
                for k in (-7, -15, -30030, -1):
                    self.check([k if i == place else 1 for i in range(length)], True)

    def test_five_of_which_no_four_have_a_zero(self):
        source = Source(906)
        seen = 0
        while seen < 25:
            row = all_but_one(source, [source.chosen(SMALL_FREE) for _ in range(5)])
            if not any(has_zero(four) for four in itertools.combinations(row, 4)):
                seen += 1
                self.check(row, True)

    def test_squares_in_the_numbers(self):
        source = Source(907)
        for length in range(2, 9):
            for row in small_rows(source, 25, length):
                wanted = has_zero(row) if length < 5 else min(row) < 0 < max(row)
                self.check([k * source.whole(1, 180) ** 2 for k in row], wanted)

    def test_numbers_near_two_to_the_thirty(self):
        source = Source(908)
        for length in range(1, 9):
            for row in small_rows(source, 15, length):
                wanted = length > 1 and (has_zero(row) if length < 5 else min(row) < 0 < max(row))
                self.check([with_great_square(k) for k in row], wanted)
        self.check([GREAT // 2, -GREAT // 2], True)
        self.check([BELOW_15 ** 2, 32719 ** 2, -2 * 23159 ** 2], True)
        self.check([BELOW_15 ** 2, 32719 ** 2, 32717 ** 2, -7 * 12301 ** 2], False)
        self.check([BELOW_15 ** 2, 32719 ** 2, 32717 ** 2, -7 * 12301 ** 2, 1], True)

    def test_agrees_with_places_and_the_others(self):
        source = Source(909)
        for length in range(1, 9):
            for row in small_rows(source, 20, length, square=30):
                self.assertEqual(zero_of(row) is None, first_without(row) is not None, row)
                if length == 2:
                    self.assertEqual(zero_of(row) is None, zero_of_two(row) is None)
                if length == 3:
                    self.assertEqual(zero_of(row) is None, zero_of_three(row) is None)

    def test_too_great(self):
        for k in NOT_SMALL:
            for row in ([k], [k, -k], [k, 1], [1, k, -1], [-1, 1, 1, k], [1, 1, 1, 1, k], [k] * 8,
                        [1, -1] * 3 + [1, k]):
                with self.assertRaises(TooGreat, msg=row):
                    zero_of(row)

    def test_too_great_goes_ahead_of_none(self):
        for row in ([17], [1, 17], [1, 1, 19], [1, 1, 1, 23], [1, 1, 17, 17], [-1] * 7 + [-17]):
            with self.assertRaises(TooGreat):
                zero_of(row)

    def test_no_row(self):
        for row in NO_ROWS:
            with self.assertRaises(NoRow, msg=row):
                zero_of(row)
        for row in ([17, 0], [17, True], [17] * 9, [17, None], [17, GREAT]):
            with self.assertRaises(NoRow, msg=row):
                zero_of(row)


def makes(row, c):
    """Whether the row, free of squares as c is, makes c: by a search by powers; of one number by looking at it."""
    if len(row) == 1:
        return row[0] == c
    return has_zero(row + [-c])


class Values(unittest.TestCase):
    def check(self, row, c, wanted):
        values = values_for(row, c)
        if not wanted:
            self.assertIsNone(values, (row, c))
            return
        self.assertIs(type(values), list)
        self.assertEqual(len(values), len(row))
        self.assertTrue(all(map(is_fraction, values)), (row, c))
        self.assertEqual(made_of(row, map(known, values)), Fraction(c), (row, c))

    def test_by_hand(self):
        self.check([1], 4, True)
        self.check([1], -4, False)
        self.check([1], 2, False)
        self.check([2], 18, True)
        self.check([1, 1], 5, True)
        self.check([1, 1], 3, False)
        self.check([1, 1, 1], 7, False)
        self.check([1, 1, 1], 14, True)
        self.check([1, 1, 1, 1], 7, True)
        self.check([1, 1, 1, 1], -7, False)
        self.check([1, -1], 30030, True)
        self.check([1] * 7, 15, True)
        self.check([-1] * 7, 15, False)

    def test_rows_of_one(self):
        for a, c in itertools.product(SMALL_FREE[:30], repeat=2):
            self.check([a], c, a == c)
            self.check([25 * a], 4 * c, a == c)

    def test_rows_of_two_and_three(self):
        numbers = numbers_of((2, 3))[:8] + [5, -7]
        for length in (2, 3):
            for row in itertools.combinations_with_replacement(numbers, length):
                for c in (1, -1, 2, 3, -6, 7, 10):
                    self.check(list(row), c, makes(list(row), c))

    def test_rows_of_each_length(self):
        source = Source(911)
        for length in range(1, 8):
            for row in small_rows(source, 40, length):
                c = source.chosen(SMALL_FREE)
                wanted = makes(row, c) if length < 4 else min(row + [-c]) < 0 < max(row + [-c])
                self.check(row, c, wanted)
                self.check([abs(k) for k in row], -abs(c), False)
                self.check([-abs(k) for k in row], abs(c), False)
                self.check([k * source.whole(1, 99) ** 2 for k in row], c * source.whole(1, 99) ** 2, wanted)

    def test_rows_that_have_a_zero_make_every_number(self):
        source = Source(912)
        asked = SMALL_FREE[:24] + [source.chosen(SMALL_FREE) for _ in range(4)] + [with_great_square(-2), 49, -45]
        for row in ([1, -1], [6, -6], [1, 1, -2], [2, -2, 7], [1, 1, 1, -1], [3, 5, -7, 11], [1, 1, 1, 1, -7],
                    [-1] * 5 + [1], [1] * 6 + [-15], [2, -8], [9, -4, 5]):
            for c in asked:
                self.check(row, c, True)

    def test_near_two_to_the_thirty(self):
        source = Source(913)
        for length in range(1, 8):
            for row in small_rows(source, 12, length):
                c = source.chosen(SMALL_FREE)
                wanted = makes(row, c) if length < 4 else min(row + [-c]) < 0 < max(row + [-c])
                self.check([with_great_square(k) for k in row], with_great_square(c), wanted)

    def test_agrees_with_the_places(self):
        source = Source(914)
        for length in range(2, 8):
            for row in small_rows(source, 25, length, square=6):
                c = source.chosen(SMALL_FREE) * source.whole(1, 6) ** 2
                at_each = all(makes_at(row, c, p) for p in PLACES)
                self.assertEqual(values_for(row, c) is not None, at_each, (row, c))

    def test_a_row_of_eight_is_not_refused(self):
        self.check([1] * 8, 7, True)
        self.check([1] * 8, -7, False)

    def test_too_great(self):
        for k in NOT_SMALL:
            for row, c in (([k], 1), ([1], k), ([1], -k), ([k], k), ([1, -1], k), ([1, k], 1), ([k, -k], 5),
                           ([1, 1, 1, k], 1), ([1] * 7, k), ([-1] * 7, abs(k)), ([1] * 6 + [k], 2)):
                with self.assertRaises(TooGreat, msg=(row, c)):
                    values_for(row, c)

    def test_numbers_that_are_not_small_for_their_size(self):
        for c in (GREAT, -GREAT, 4 * GREAT, 10 ** 40):
            with self.assertRaises(TooGreat):
                values_for([1, -1], c)
            with self.assertRaises(TooGreat):
                values_for([1], -abs(c))

    def test_no_row_ahead_of_all_else(self):
        for row in NO_ROWS:
            for c in (1, 17, -BELOW_30):
                with self.assertRaises(NoRow, msg=row):
                    values_for(row, c)


class NumbersAmong(unittest.TestCase):
    """The numbers by which zeros are found."""

    def test_products_of_classes(self):
        for p in PLACES + (17, 8101):
            for a, b in itertools.product(samples_at(p) + [-1, 6, 45], repeat=2):
                self.assertEqual(class_of_product(class_at(a, p), class_at(b, p), p), class_at(a * b, p))
            self.assertEqual(len({class_at(k, p) for k in samples_at(p)}), {0: 2, 2: 8}.get(p, 4))

    def test_one_class_for_each_place_gives_the_wished_number(self):
        source = Source(915)
        for _ in range(12):
            classes = [class_at(source.chosen(samples_at(p)), p) for p in PLACES]
            self.assertEqual(number_among(list(PLACES), [[one] for one in classes]), number_with(classes))

    def test_one_place_more(self):
        source = Source(916)
        for q in (17, 1009, 8101):
            wishes = [[class_at(source.chosen(samples_at(p)), p)] for p in PLACES] + [[(0, 1)]]
            k = number_among(list(PLACES) + [q], wishes)
            self.assertTrue(all(class_at(k, p) in wish for p, wish in zip(PLACES + (q,), wishes)))


class NothingChangedOrKept(unittest.TestCase):
    def test_all(self):
        source = Source(917)
        for length in range(1, 8):
            for row in small_rows(source, 4, length, square=4):
                check_nothing_changed_or_kept(self, zero_of, [row])
                check_nothing_changed_or_kept(self, values_for, [row, source.chosen(SMALL_FREE)])
        check_nothing_changed_or_kept(self, zero_of, [[1, 1, 1, 1, 1, 1, 1, -7]])


if __name__ == "__main__":
    unittest.main()
